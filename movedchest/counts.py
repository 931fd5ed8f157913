"""COUNTS: how often each LINK is gone over one way, less the other way."""

from movedchest.errors import CanNot, Unfit
from movedchest.kinds import are_numbers, negative, summed, tupled
from movedchest.rows import fit_row, tips_alone
from movedchest.shapes import LINK_SIDES, LINKS, SIDES, arcs, fit_chest, fit_shape, link_over, other_shape
from movedchest.stands import fit_stand, measured


def is_counts(thing):
    """Whether thing are COUNTS, leading anywhere or not."""
    return are_numbers(thing, 6)


def fit_counts(counts):
    """The COUNTS as a tuple, else Unfit()."""
    own = tupled(counts, 1)
    if not is_counts(own):
        raise Unfit()
    return own


def links_over(stand, row):
    """The list of the pairs (LINK, 1 or -1 as it counts) of the tips of row; CanNot() if a TURN is in it."""
    shape = fit_stand(stand)[0]
    own = fit_row(row)
    if not tips_alone(own):
        raise CanNot()
    gone = []
    for _, way in own:
        link = link_over(shape, way)
        gone.append((link, 1 if way in (0, 1) else -1))
        shape = other_shape(shape, link)
    return gone


def counts_of(stand, row):
    """The COUNTS of row from stand on; CanNot() if a TURN is in it."""
    counts = [0, 0, 0, 0, 0, 0]
    for link, step in links_over(stand, row):
        counts[link] += step
    return tuple(counts)


def counts_between(stand, goal):
    """The COUNTS from stand to goal; CanNot() if what xs or ys are more adds up to an odd number."""
    start, end = fit_stand(stand), fit_stand(goal)
    shifts = [summed(end[own], negative(start[own])) for own in (1, 2)]
    if any([sum(shift) % 2 == 1 for shift in shifts]):
        raise CanNot()
    return tuple([sum(shifts[link % 2]) // 2 - shifts[link % 2][LINK_SIDES[link]] for link in LINKS])


def shift_along(counts, axis):
    """How much more xs (axis 0), ys (1) are, side by side, behind tips with these COUNTS."""
    own = [link for link in LINKS if link % 2 == axis]
    return tuple([sum([counts[link] for link in own if LINK_SIDES[link] != side]) for side in SIDES])


def shifts_by(counts):
    """The pair of how much more xs and ys are behind tips with these COUNTS."""
    own = fit_counts(counts)
    return shift_along(own, 0), shift_along(own, 1)


def counts_joined(counts, second):
    """The COUNTS of both added up."""
    own = fit_counts(counts)
    return summed(own, fit_counts(second))


def counts_back(counts):
    """The COUNTS with each the other sign."""
    return negative(fit_counts(counts))


def odd_links(counts):
    """The set of the LINKS whose COUNTS are odd."""
    own = fit_counts(counts)
    return tuple([link for link in LINKS if own[link] % 2 == 1])


def can_lead(shape, other, counts):
    """Whether counts lead from shape to other."""
    both = arcs(shape, other)
    return odd_links(counts) in both


def size_of(counts):
    """The sizes of the COUNTS added up."""
    return sum([abs(count) for count in fit_counts(counts)])


def is_front_turned(side, start, end, shifts):
    """Whether the FRONT of side is turned behind tips from the SHAPE start to end, xs and ys having so much more.

    A tip that changes xs or ys at this side, by 1 or -1, brings it to stand
    (count 1) or to lie (count -1). Half of both numbers added up is odd just if
    the tip turns its FRONT. Over all tips the first numbers come to what xs and
    ys have more at side, the second ones to how side stands at end but not at
    start, or the other way round.
    """
    stands_more = int(end[2] == side) - int(start[2] == side)
    return (shifts[0][side] + shifts[1][side] + stands_more) // 2 % 2 == 1


def stand_by(stand, shape, counts):
    """The STAND of this SHAPE to which tips with these COUNTS lead from stand; CanNot() if they do not."""
    start, xs, ys, fronts = fit_stand(stand)
    end = fit_shape(shape)
    shifts = shifts_by(counts)
    if not can_lead(start, end, counts):
        raise CanNot()
    turned = [is_front_turned(side, start, end, shifts) for side in SIDES]
    return (
        end,
        summed(xs, shifts[0]),
        summed(ys, shifts[1]),
        tuple([-front if over else front for front, over in zip(fronts, turned)]),
    )


def middle_shift(chest, counts):
    """How far tips with these COUNTS move the MIDDLE of chest, doubled: the pair (east, north)."""
    sides = fit_chest(chest)
    more_x, more_y = shifts_by(counts)
    return measured(sides, more_x), measured(sides, more_y)
