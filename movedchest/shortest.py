"""Shortest ROWS of the same kind that are alike, and ROWS without loops."""

from movedchest.errors import CanNot
from movedchest.fewest import fewest_tips, shortest_tips
from movedchest.rows import behind, fit_row, is_row, stands_along, tips_alone, turns_alone
from movedchest.slants import fewest_turns, shortest_turns
from movedchest.stands import HOME


def kind_of_row(row):
    """'none' for (), 'tips', 'turns' or 'both'."""
    own = fit_row(row)
    if own == ():
        return "none"
    if tips_alone(own):
        return "tips"
    return "turns" if turns_alone(own) else "both"


def fit_kind(row):
    """The kind of row; Unfit(), CanNot() if row is mixed."""
    kind = kind_of_row(row)
    if kind == "both":
        raise CanNot()
    return kind


def fewest_like(row):
    """How many MOVES a shortest ROW of its kind has that is alike to row; CanNot() if row is mixed."""
    kind = fit_kind(row)
    there = behind(HOME, row)
    return fewest_turns(HOME, there) if kind == "turns" else fewest_tips(HOME, there)


def shortest_like(row):
    """A shortest ROW of its kind that is alike to row; CanNot() if row is mixed."""
    kind = fit_kind(row)
    there = behind(HOME, row)
    return shortest_turns(HOME, there) if kind == "turns" else shortest_tips(HOME, there)


def is_shortest_like(row, thing):
    """Whether thing is a shortest ROW of its kind that is alike to row; CanNot() if row is mixed."""
    kind = fit_kind(row)
    many = fewest_like(row)
    if not is_row(thing) or len(thing) != many or behind(HOME, thing) != behind(HOME, row):
        return False
    return turns_alone(thing) if kind == "turns" else tips_alone(thing)


def is_shortest(row):
    """Whether row has no more MOVES than a shortest ROW of its kind that is alike; CanNot() if row is mixed."""
    return too_many(row) == 0


def too_many(row):
    """How many MOVES more row has than a shortest one of its kind that is alike; CanNot() if row is mixed."""
    fewest = fewest_like(row)
    return len(row) - fewest


def first_loop(row):
    """The pair of how many MOVES had been made where the first loop begins, and where it ends; CanNot() without one."""
    met = {}
    for made, stand in enumerate(stands_along(HOME, row)):
        if stand in met:
            return met[stand], made
        met[stand] = made
    raise CanNot()


def without_loops(row):
    """row without the MOVES of its first loop, and so on until no STAND comes twice."""
    own = fit_row(row)
    stands = stands_along(HOME, own)
    left = []
    way = [stands[0]]
    met = {stands[0]: 0}
    for move, stand in zip(own, stands[1:]):
        if stand in met:
            # A loop ends here: what was come to in it counts no more.
            start = met[stand]
            for gone in way[start + 1:]:
                del met[gone]
            left, way = left[:start], way[:start + 1]
        else:
            left.append(move)
            way.append(stand)
            met[stand] = len(left)
    return tuple(left)
