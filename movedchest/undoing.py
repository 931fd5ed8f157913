"""ROWS taken back, shortened, put together and swung; STANDS put behind one another."""

from movedchest.errors import TooMany
from movedchest.kinds import fit_from_to, fit_number, negative, summed
from movedchest.rows import fit_row
from movedchest.shapes import SIDES
from movedchest.stands import fit_move, fit_stand, flipped, is_tip

MOST_MOVES = 2000


def contrary(move):
    """The MOVE that undoes move."""
    return backward(fit_move(move))


def backward(move):
    """The contrary of what is known to be a MOVE."""
    if is_tip(move):
        return "tip", (move[1] + 2) % 4
    # The corner that stays where it is has swung on by a quarter.
    return "turn", (move[1] + move[2]) % 4, -move[2]


def undone(row):
    """The ROW of the contrary MOVES, the last one's first."""
    return tuple([backward(move) for move in fit_row(row)[::-1]])


def shortened(row):
    """row without neighbours of which the second undoes the first, as long as there are some."""
    left = []
    for move in fit_row(row):
        if left and left[-1] == backward(move):
            left.pop()
        else:
            left.append(move)
    return tuple(left)


def is_short(row):
    """Whether no MOVE undoes the one ahead of it."""
    own = fit_row(row)
    return not any([second == backward(first) for first, second in zip(own, own[1:])])


def joined(row, other):
    """other behind row."""
    own = fit_row(row)
    return own + fit_row(other)


def repeated(row, number):
    """row number times, below 0 undone(row) as often; TooMany() above 2,000 MOVES."""
    own = fit_row(row)
    times = abs(fit_number(number))
    if len(own) * times > MOST_MOVES:
        raise TooMany()
    if not own:
        # Python does not repeat even () any number of times.
        return own
    return own * times if number >= 0 else undone(own) * times


def changed(row, number, move):
    """row with move in the place of the MOVE at place number."""
    own = fit_row(row)
    place = fit_from_to(number, 0, len(own) - 1)
    return own[:place] + (fit_move(move),) + own[place + 1:]


def left_out(row, number):
    """row without the MOVE at place number."""
    own = fit_row(row)
    place = fit_from_to(number, 0, len(own) - 1)
    return own[:place] + own[place + 1:]


def put_in(row, number, move):
    """row with move put in ahead of place number."""
    own = fit_row(row)
    place = fit_from_to(number, 0, len(own))
    return own[:place] + (fit_move(move),) + own[place:]


def fit_swing(number):
    """The SWING, else Unfit()."""
    return fit_from_to(number, 0, 7)


def mirrored_move(move):
    """The MOVE with east and west exchanged."""
    if is_tip(move):
        return "tip", (2 - move[1]) % 4
    return "turn", (1 - move[1]) % 4, -move[2]


def swung_move(move, swing):
    """The MOVE that move comes to be by a SWING."""
    own = mirrored_move(move) if swing >= 4 else move
    return own[:1] + ((own[1] + swing) % 4,) + own[2:]


def swung(row, number):
    """The ROW of the MOVES to which those of row come by this SWING."""
    own = fit_row(row)
    swing = fit_swing(number)
    return tuple([swung_move(move, swing) for move in own])


def mirrored_stand(stand):
    """The STAND with east and west exchanged."""
    shape, xs, ys, fronts = stand
    return shape, negative(xs), ys, flipped(fronts, shape[0])


def quarter_left(stand):
    """The STAND turned to the left by a quarter about the beginning."""
    shape, xs, ys, fronts = stand
    i, j, k = shape
    return (j, i, k), negative(ys), xs, flipped(fronts, j)


def stand_swung(stand, number):
    """The STAND to which stand comes by this SWING."""
    own = fit_stand(stand)
    swing = fit_swing(number)
    if swing >= 4:
        own = mirrored_stand(own)
    for _ in range(swing % 4):
        own = quarter_left(own)
    return own


def put_behind(stand, other):
    """The STAND to which each ROW leads from stand that leads from HOME to other."""
    shape, xs, ys, fronts = fit_stand(stand)
    on_shape, on_xs, on_ys, on_fronts = fit_stand(other)
    # For each side of stand the one of other that comes to be it.
    own = [shape.index(side) for side in SIDES]
    return (
        tuple([shape[side] for side in on_shape]),
        summed(xs, [on_xs[side] for side in own]),
        summed(ys, [on_ys[side] for side in own]),
        tuple([front * on_fronts[side] for front, side in zip(fronts, own)]),
    )


def back_from(stand):
    """The STAND that put behind stand is HOME."""
    shape, xs, ys, fronts = fit_stand(stand)
    return (
        tuple([shape.index(side) for side in SIDES]),
        negative([xs[side] for side in shape]),
        negative([ys[side] for side in shape]),
        tuple([fronts[side] for side in shape]),
    )
