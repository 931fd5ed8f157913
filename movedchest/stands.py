"""STANDS and MOVES: where a CHEST stands, and how it is tipped and turned."""

from movedchest.errors import Unfit
from movedchest.kinds import are_numbers, fit_from_to, is_from_to, is_sign, summed, tupled
from movedchest.shapes import SIDES, fit_chest, is_shape

HOME = ((0, 1, 2), (0, 0, 0), (0, 0, 0), (1, 1, 1))
WAYS = (0, 1, 2, 3)
CORNERS = (0, 1, 2, 3)
# How a first face looks along x, along y, up: as its FRONT is 1 or -1.
LOOKS = (("east", "west"), ("north", "south"), ("up", "down"))


def is_stand(thing):
    """Whether thing is a STAND."""
    if not isinstance(thing, tuple) or len(thing) != 4:
        return False
    shape, xs, ys, fronts = thing
    if not are_numbers(fronts, 3) or not all([is_sign(front) for front in fronts]):
        return False
    return is_shape(shape) and are_numbers(xs, 3) and are_numbers(ys, 3)


def fit_stand(stand):
    """The STAND as a tuple of tuples, else Unfit()."""
    own = tupled(stand, 2)
    if not is_stand(own):
        raise Unfit()
    return own


def is_move(thing):
    """Whether thing is a MOVE."""
    if not isinstance(thing, tuple) or len(thing) not in (2, 3):
        return False
    if len(thing) == 2:
        return thing[0] == "tip" and is_from_to(thing[1], 0, 3)
    return thing[0] == "turn" and is_from_to(thing[1], 0, 3) and is_sign(thing[2])


def fit_move(move):
    """The MOVE as a tuple, else Unfit()."""
    own = tupled(move, 1)
    if not is_move(own):
        raise Unfit()
    return own


def home():
    """HOME."""
    return HOME


def is_tip(move):
    """Whether a MOVE is a TIP."""
    return move[0] == "tip"


def more_at(pairs):
    """The triple of what is more at each side, of pairs (side, number); 0 at others."""
    more = [0, 0, 0]
    for side, number in pairs:
        more[side] = number
    return tuple(more)


def flipped(fronts, side):
    """The FRONTS with the sign at this side turned."""
    return tuple([-fronts[own] if own == side else fronts[own] for own in SIDES])


def tipped(stand, way):
    """The STAND behind a TIP."""
    shape, xs, ys, fronts = stand
    i, j, k = shape
    step = 1 if way in (0, 1) else -1
    lying = i if way in (0, 2) else j
    more = more_at(((lying, step), (k, step)))
    turned_over = flipped(fronts, lying if step == 1 else k)
    if way in (0, 2):
        return (k, j, i), summed(xs, more), ys, turned_over
    return (i, k, j), xs, summed(ys, more), turned_over


def turned(stand, corner, hand):
    """The STAND behind a TURN."""
    shape, xs, ys, fronts = stand
    i, j, k = shape
    u = 1 if corner in (1, 2) else -1
    v = 1 if corner in (2, 3) else -1
    more_x = more_at(((i, u), (j, v * hand)))
    more_y = more_at(((i, -u * hand), (j, v)))
    return (j, i, k), summed(xs, more_x), summed(ys, more_y), flipped(fronts, j if hand == 1 else i)


def step_by(stand, move):
    """The STAND behind a MOVE, both known to be such."""
    if is_tip(move):
        return tipped(stand, move[1])
    return turned(stand, move[1], move[2])


def moved(stand, move):
    """The STAND behind move."""
    own = fit_stand(stand)
    return step_by(own, fit_move(move))


def all_moves():
    """The list of all twelve MOVES, ascending."""
    tips = [("tip", way) for way in WAYS]
    return tips + [("turn", corner, hand) for corner in CORNERS for hand in (-1, 1)]


def moves(stand):
    """The list, ascending, of the pairs (move, STAND behind it) of all twelve MOVES."""
    own = fit_stand(stand)
    return [(move, step_by(own, move)) for move in all_moves()]


def measured(chest, numbers):
    """numbers times the sides of a CHEST, added up."""
    return sum([side * number for side, number in zip(chest, numbers)])


def middle_of(chest, stand):
    """The MIDDLE of a CHEST on this STAND."""
    sides = fit_chest(chest)
    _, xs, ys, _ = fit_stand(stand)
    return measured(sides, xs), measured(sides, ys)


def height(chest, stand):
    """The side that stands, as long as it is."""
    sides = fit_chest(chest)
    return sides[fit_stand(stand)[0][2]]


def lower_face(chest, stand):
    """The pair of the south-west and the north-east corner of the lower face, doubled."""
    east, north = middle_of(chest, stand)
    sides = fit_chest(chest)
    i, j, _ = fit_stand(stand)[0]
    return (east - sides[i], north - sides[j]), (east + sides[i], north + sides[j])


def corners(chest, stand):
    """The set of all eight corners, doubled triples (east, north, up)."""
    (west, south), (east, north) = lower_face(chest, stand)
    levels = (0, 2 * height(chest, stand))
    return tuple([(x, y, up) for x in (west, east) for y in (south, north) for up in levels])


def face_below(stand):
    """The pair of the side that stands and 1 if its first face is the lower one, else -1."""
    shape, _, _, fronts = fit_stand(stand)
    return shape[2], -fronts[shape[2]]


def looks(stand, side):
    """Whither the first face of side looks."""
    shape, _, _, fronts = fit_stand(stand)
    own = fit_from_to(side, 0, 2)
    onward, backward = LOOKS[shape.index(own)]
    return onward if fronts[own] == 1 else backward
