"""Shortest rows by search, step by step as section 2 tells the MOVES; nothing here is taken from the package."""

from tests.drawn import ALL_TIPS, ALL_TURNS


def added(numbers, more):
    own = list(numbers)
    for side, number in more.items():
        own[side] += number
    return tuple(own)


def with_sign_turned(fronts, side):
    return tuple(-front if own == side else front for own, front in enumerate(fronts))


def stepped(stand, move):
    """The STAND behind a MOVE."""
    (i, j, k), xs, ys, fronts = stand
    if move == ("tip", 0):
        return (k, j, i), added(xs, {i: 1, k: 1}), ys, with_sign_turned(fronts, i)
    if move == ("tip", 2):
        return (k, j, i), added(xs, {i: -1, k: -1}), ys, with_sign_turned(fronts, k)
    if move == ("tip", 1):
        return (i, k, j), xs, added(ys, {j: 1, k: 1}), with_sign_turned(fronts, j)
    if move == ("tip", 3):
        return (i, k, j), xs, added(ys, {j: -1, k: -1}), with_sign_turned(fronts, k)
    _, corner, hand = move
    u, v = {0: (-1, -1), 1: (1, -1), 2: (1, 1), 3: (-1, 1)}[corner]
    if hand == 1:
        return (j, i, k), added(xs, {i: u, j: v}), added(ys, {i: -u, j: v}), with_sign_turned(fronts, j)
    return (j, i, k), added(xs, {i: u, j: -v}), added(ys, {i: u, j: v}), with_sign_turned(fronts, i)


def walked(stand, row):
    """The STAND behind a ROW."""
    for move in row:
        stand = stepped(stand, move)
    return stand


def all_within(stand, moves, most, step=stepped):
    """For each STAND that at most so many of these MOVES come to: how many at the fewest."""
    found = {stand: 0}
    here = [stand]
    for many in range(1, most + 1):
        later = []
        for own in here:
            for move in moves:
                there = step(own, move)
                if there not in found:
                    found[there] = many
                    later.append(there)
        here = later
    return found


def fewest_from_both(near, far):
    """The fewest MOVES from one STAND to another, of what is near either; None if more than both searches reach."""
    met = [near[own] + far[own] for own in near if own in far]
    return min(met, default=None)


def counted_within(stand, moves, most):
    """For each STAND that just most of these MOVES come to and no fewer: how many ROWS of so many there are."""
    found = all_within(stand, moves, most)
    here = {stand: 1}
    for many in range(1, most + 1):
        later = {}
        for own, rows in here.items():
            for move in moves:
                there = stepped(own, move)
                if found[there] == many:
                    later[there] = later.get(there, 0) + rows
        here = later
    return here


def all_shortest(stand, far, moves):
    """All shortest ROWS, ascending, from stand to where far tells 0: MOVES of which each comes one nearer."""
    rows, here = [], [((), stand)]
    while here:
        row, own = here.pop()
        if far[own] == 0:
            rows.append(row)
        for move in moves:
            there = stepped(own, move)
            if far.get(there) == far[own] - 1:
                here.append((row + (move,), there))
    return sorted(rows)


def tips_within(stand, most):
    return all_within(stand, ALL_TIPS, most)


def turns_within(stand, most):
    return all_within(stand, ALL_TURNS, most)
