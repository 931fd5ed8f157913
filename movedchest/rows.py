"""ROWS of MOVES and where they lead."""

from movedchest.errors import Unfit
from movedchest.kinds import tupled
from movedchest.shapes import fit_chest
from movedchest.stands import fit_stand, is_move, is_tip, middle_of, step_by


def is_row(thing):
    """Whether thing is a ROW."""
    return isinstance(thing, tuple) and all([is_move(own) for own in thing])


def fit_row(row):
    """The ROW as a tuple of tuples, else Unfit()."""
    own = tupled(row, 2)
    if not is_row(own):
        raise Unfit()
    return own


def behind(stand, row):
    """The STAND to which row leads from stand."""
    return stands_along(stand, row)[-1]


def stands_along(stand, row):
    """The tuple of the STANDS that are come to, stand itself first."""
    stands = [fit_stand(stand)]
    for move in fit_row(row):
        stands.append(step_by(stands[-1], move))
    return tuple(stands)


def shapes_along(stand, row):
    """The tuple of the SHAPES that are come to."""
    return tuple([own[0] for own in stands_along(stand, row)])


def middles_along(chest, stand, row):
    """The tuple of the MIDDLES that chest comes to."""
    sides = fit_chest(chest)
    return tuple([middle_of(sides, own) for own in stands_along(stand, row)])


def tips_alone(row):
    """Whether all MOVES are TIPS."""
    return all([is_tip(move) for move in fit_row(row)])


def turns_alone(row):
    """Whether all MOVES are TURNS."""
    return not any([is_tip(move) for move in fit_row(row)])


def how_often(row):
    """The tuple of how many TIPS go east, north, west, south, and how many TURNS left, right."""
    own = fit_row(row)
    ways = [move[1] for move in own if is_tip(move)]
    hands = [move[2] for move in own if not is_tip(move)]
    return tuple([ways.count(way) for way in range(4)] + [hands.count(hand) for hand in (1, -1)])


def first_met(stand, row, goal):
    """The least number of first MOVES behind which goal is come to; None if it never is."""
    stands = stands_along(stand, row)
    sought = fit_stand(goal)
    return stands.index(sought) if sought in stands else None
