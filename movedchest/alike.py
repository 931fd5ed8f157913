"""ROWS that put CHESTS alike: every CHEST, or a told one."""

from itertools import product

from movedchest.errors import CanNot
from movedchest.kinds import fit_number
from movedchest.rows import behind, fit_row
from movedchest.shapes import fit_chest, is_chest
from movedchest.stands import HOME, middle_of, step_by

# If two ROWS are not alike, one of these tells them apart.
TELLING_CHESTS = ((1, 1, 1), (2, 1, 1), (1, 2, 1), (1, 1, 2))
GREATEST_SIDE = 12


def are_alike(row, other):
    """Whether both ROWS put every CHEST alike."""
    return behind(HOME, row) == behind(HOME, other)


def look_alike(chest, stand, other):
    """Whether a CHEST stands alike on both STANDS."""
    if stand[0] != other[0] or stand[3] != other[3]:
        return False
    return middle_of(chest, stand) == middle_of(chest, other)


def alike_for(chest, row, other):
    """Whether both ROWS put this CHEST alike."""
    sides = fit_chest(chest)
    return look_alike(sides, behind(HOME, row), behind(HOME, other))


def parting_chest(row, other):
    """A CHEST that both ROWS do not put alike; CanNot() if there is none."""
    here, there = behind(HOME, row), behind(HOME, other)
    parted = [chest for chest in TELLING_CHESTS if not look_alike(chest, here, there)]
    if not parted:
        raise CanNot()
    return parted[0]


def is_parting(row, other, thing):
    """Whether thing is a CHEST that both ROWS do not put alike."""
    here, there = behind(HOME, row), behind(HOME, other)
    return is_chest(thing) and not look_alike(thing, here, there)


def chests_for(row, other, most):
    """The list, ascending, of all CHESTS with sides up to most that both ROWS put alike; CanNot()."""
    here, there = behind(HOME, row), behind(HOME, other)
    side = fit_number(most)
    if side < 1 or side > GREATEST_SIDE:
        raise CanNot()
    sides = list(range(1, side + 1))
    return [chest for chest in product(sides, sides, sides) if look_alike(chest, here, there)]


def comes_home(row):
    """Whether row puts every CHEST as it was."""
    return are_alike(row, ())


def comes_home_for(chest, row):
    """Whether row puts this CHEST as it was."""
    return alike_for(chest, row, ())


def fit_two(row, place):
    """The pair of the ROW and the place of two MOVES in it; Unfit(), CanNot() if it has no such two."""
    own, first = fit_row(row), fit_number(place)
    if first < 0 or first + 1 >= len(own):
        raise CanNot()
    return own, first


def exchanged(row, place):
    """The ROW with the MOVES at place and place + 1 exchanged; CanNot() if it has no such two."""
    own, first = fit_two(row, place)
    return own[:first] + (own[first + 1], own[first]) + own[first + 2:]


def may_change_places(first, second):
    """Whether two MOVES lead to one STAND in either order: they do so from HOME if from any STAND."""
    return step_by(step_by(HOME, first), second) == step_by(step_by(HOME, second), first)


def can_exchange(row, place):
    """Whether row stays alike if the MOVES at place and place + 1 are exchanged; CanNot() if it has no such two."""
    own, first = fit_two(row, place)
    return may_change_places(own[first], own[first + 1])


def exchanges(row):
    """The set of the places at which two MOVES can be exchanged."""
    own = fit_row(row)
    return tuple([place for place in range(len(own) - 1) if may_change_places(own[place], own[place + 1])])
