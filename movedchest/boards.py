"""BOARDS with walls, and the LYINGS of a CHEST on them."""

from movedchest.errors import CanNot, Unfit
from movedchest.kinds import are_numbers, is_ascending, is_from_to, is_number, tupled
from movedchest.rows import is_row
from movedchest.shapes import RING, fit_chest, is_shape
from movedchest.stands import HOME, all_moves, fit_move, fit_stand, is_tip, lower_face, step_by

HOWS = ("tips", "turns", "both")


def is_base(thing):
    """Whether thing is a BASE."""
    return are_numbers(thing, 2)


def fit_base(base):
    """The BASE as a tuple, else Unfit()."""
    own = tupled(base, 1)
    if not is_base(own):
        raise Unfit()
    return own


def are_bases(thing):
    """Whether thing is a set of BASES."""
    return isinstance(thing, tuple) and all([is_base(own) for own in thing]) and is_ascending(thing)


def is_board(thing):
    """Whether thing is a BOARD."""
    if not isinstance(thing, tuple) or len(thing) != 3:
        return False
    wide, high, walls = thing
    if not is_number(wide) or not is_number(high) or wide < 1 or high < 1 or not are_bases(walls):
        return False
    return all([is_from_to(x, 0, wide - 1) and is_from_to(y, 0, high - 1) for x, y in walls])


def fit_board(board):
    """The BOARD as a tuple of tuples, else Unfit()."""
    own = tupled(board, 3)
    if not is_board(own):
        raise Unfit()
    return own


def is_lying(thing):
    """Whether thing is a LYING."""
    return isinstance(thing, tuple) and len(thing) == 2 and is_shape(thing[0]) and is_base(thing[1])


def fit_lying(lying):
    """The LYING as a tuple of tuples, else Unfit()."""
    own = tupled(lying, 2)
    if not is_lying(own):
        raise Unfit()
    return own


def fit_how(how):
    """The word of which MOVES are made, else Unfit()."""
    if not isinstance(how, str) or how not in HOWS:
        raise Unfit()
    return how


def base_shift(chest, stand, goal):
    """How far, doubled, the BASE at goal is from the one at stand."""
    (west, south), _ = lower_face(chest, stand)
    (to_west, to_south), _ = lower_face(chest, goal)
    return to_west - west, to_south - south


def lying_of(chest, base, stand):
    """The LYING of a STAND if HOME lies at base; CanNot() if its BASE is not whole."""
    sides, (x, y), own = fit_chest(chest), fit_base(base), fit_stand(stand)
    east, north = base_shift(sides, HOME, own)
    if east % 2 == 1 or north % 2 == 1:
        raise CanNot()
    return own[0], (x + east // 2, y + north // 2)


def squares_of(chest, lying):
    """The set of the squares that a LYING covers."""
    (i, j, _), (x, y) = lying
    return tuple([(x + east, y + north) for east in range(chest[i]) for north in range(chest[j])])


def covered(chest, lying):
    """The set of the squares that a LYING of chest covers."""
    sides = fit_chest(chest)
    return squares_of(sides, fit_lying(lying))


def free_squares(board):
    """A dict of the squares of a BOARD that are no walls."""
    wide, high, walls = board
    shut = {square: True for square in walls}
    return {(x, y): True for x in range(wide) for y in range(high) if (x, y) not in shut}


def lies_free(free, chest, lying):
    """Whether a LYING covers squares alone that are free."""
    (i, j, _), (x, y) = lying
    # Two corners first: most of what does not fit is seen by them.
    if (x, y) not in free or (x + chest[i] - 1, y + chest[j] - 1) not in free:
        return False
    return all([square in free for square in squares_of(chest, lying)])


def fits(board, chest, lying):
    """Whether a LYING of chest fits a BOARD."""
    own, sides, here = fit_board(board), fit_chest(chest), fit_lying(lying)
    return lies_free(free_squares(own), sides, here)


def moved_lying(chest, lying, move):
    """The LYING behind a MOVE."""
    shape, (x, y) = lying
    stand = (shape,) + HOME[1:]
    there = step_by(stand, move)
    east, north = base_shift(chest, stand, there)
    return there[0], (x + east // 2, y + north // 2)


def lain(chest, lying, move):
    """The LYING behind move."""
    sides, own = fit_chest(chest), fit_lying(lying)
    return moved_lying(sides, own, fit_move(move))


def is_move_of(move, how):
    """Whether a MOVE is one of those that how tells."""
    return how == "both" or is_tip(move) == (how == "tips")


def ways_on(chest, how):
    """For each SHAPE the list of the triples of a MOVE, ascending, and the SHAPE and BASE behind it, from (0, 0) on."""
    moves = [move for move in all_moves() if is_move_of(move, how)]
    return {shape: [(move,) + moved_lying(chest, (shape, (0, 0)), move) for move in moves] for shape in RING}


def fit_place(board, chest, how):
    """The triple of what one goes by on a BOARD: the CHEST, the squares that are free, the ways on; else Unfit()."""
    own, sides = fit_board(board), fit_chest(chest)
    return sides, free_squares(own), ways_on(sides, fit_how(how))


def fits_place(place, lying):
    """Whether a LYING fits there."""
    chest, free, _ = place
    return lies_free(free, chest, lying)


def fit_lying_there(place, lying):
    """The LYING as a tuple of tuples, else Unfit(), also if it does not fit there."""
    own = fit_lying(lying)
    if not fits_place(place, own):
        raise Unfit()
    return own


def steps_on(place, lying):
    """The list, MOVES ascending, of the pairs (move, LYING behind it) of those behind which it fits."""
    shape, (x, y) = lying
    beyond = [(move, (other, (x + east, y + north))) for move, other, (east, north) in place[2][shape]]
    return [(move, there) for move, there in beyond if fits_place(place, there)]


def searched(place, lying):
    """For each LYING that can be come to the triple of how many MOVES it takes, the last one, the LYING ahead of that.

    For lying itself 0, None, None.
    """
    found = {lying: (0, None, None)}
    here = [lying]
    while here:
        later = []
        for own in here:
            for move, there in steps_on(place, own):
                if there not in found:
                    found[there] = found[own][0] + 1, move, own
                    later.append(there)
        here = later
    return found


def moves_on(board, chest, lying, how):
    """The set of the MOVES behind which lying fits."""
    place = fit_place(board, chest, how)
    return tuple([move for move, _ in steps_on(place, fit_lying_there(place, lying))])


def reached_on(board, chest, lying, how):
    """The set of all LYINGS that can be come to, lying with them."""
    place = fit_place(board, chest, how)
    return tuple(sorted(searched(place, fit_lying_there(place, lying))))


def far_on(board, chest, lying, how):
    """The greatest number of the fewest MOVES to a LYING that can be come to."""
    place = fit_place(board, chest, how)
    found = searched(place, fit_lying_there(place, lying))
    return max([many for many, _, _ in found.values()])


def plan_between(place, lying, other):
    """A ROW of the fewest MOVES from lying to other; None if there is none."""
    found = searched(place, lying)
    if other not in found:
        return None
    row = []
    many, move, ahead = found[other]
    while many > 0:
        row.append(move)
        many, move, ahead = found[ahead]
    return tuple(row[::-1])


def plan_on(board, chest, lying, other, how):
    """A ROW of the fewest MOVES to other; CanNot() if there is none."""
    place = fit_place(board, chest, how)
    row = plan_between(place, fit_lying_there(place, lying), fit_lying_there(place, other))
    if row is None:
        raise CanNot()
    return row


def fewest_on(board, chest, lying, other, how):
    """How many MOVES at the fewest lead to other; CanNot() if none do."""
    return len(plan_on(board, chest, lying, other, how))


def leads_on(place, lying, row):
    """The LYING to which a ROW leads from lying; None if one MOVE is not to be made there."""
    for move in row:
        there = [own for step, own in steps_on(place, lying) if step == move]
        if not there:
            return None
        lying = there[0]
    return lying


def is_plan_on(board, chest, lying, other, how, thing):
    """Whether thing is a ROW of the fewest MOVES to other."""
    place = fit_place(board, chest, how)
    start, end = fit_lying_there(place, lying), fit_lying_there(place, other)
    row = plan_between(place, start, end)
    if row is None or not is_row(thing) or len(thing) != len(row):
        return False
    return leads_on(place, start, thing) == end


def why_shut(board, chest, lying, other, how):
    """A set of LYINGS, lying and not other among them, that lead to its own alone; CanNot() if there is none."""
    place = fit_place(board, chest, how)
    start, end = fit_lying_there(place, lying), fit_lying_there(place, other)
    found = searched(place, start)
    if end in found:
        raise CanNot()
    return tuple(sorted(found))


def is_why_shut(board, chest, lying, other, how, thing):
    """Whether thing is such a set."""
    place = fit_place(board, chest, how)
    start, end = fit_lying_there(place, lying), fit_lying_there(place, other)
    if not isinstance(thing, tuple) or not all([is_lying(own) for own in thing]) or not is_ascending(thing):
        return False
    inside = {own: True for own in thing}
    if start not in inside or end in inside or not all([fits_place(place, own) for own in thing]):
        return False
    return all([there in inside for own in thing for _, there in steps_on(place, own)])
