"""What bars rows of tips from leading somewhere, and why no fewer tips do."""

from movedchest.counts import can_lead, counts_between, fit_counts, odd_links
from movedchest.errors import CanNot, Unfit
from movedchest.kinds import is_just, tupled
from movedchest.links import free_stretches, fronts_by, gap
from movedchest.shapes import LINKS, SIDES, fit_links
from movedchest.stands import fit_stand


def can_tip_to(stand, goal):
    """Whether a ROW of tips leads from stand to goal."""
    return not bars(stand, goal)


def sum_bars(stand, goal):
    """The list of the BARS of a line whose sums differ by an odd number."""
    return [("sum", line) for line in (0, 1) if (sum(goal[1 + line]) - sum(stand[1 + line])) % 2 == 1]


def bars(stand, goal):
    """The list of all BARS that hold, lines and sides ascending."""
    start, end = fit_stand(stand), fit_stand(goal)
    odd_sums = sum_bars(start, end)
    if odd_sums:
        return odd_sums
    counts = counts_between(start, end)
    if not can_lead(start[0], end[0], counts):
        return [("odd", odd_links(counts))]
    told = fronts_by(start, end[0], counts)
    return [("front", side) for side in SIDES if end[3][side] != told[side]]


def why_not(stand, goal):
    """The first BAR that holds; CanNot() if there is none."""
    found = bars(stand, goal)
    if not found:
        raise CanNot()
    return found[0]


def is_why_not(stand, goal, thing):
    """Whether thing is a BAR that holds."""
    return any([is_just(thing, own) for own in bars(stand, goal)])


def stakes(stand, goal):
    """The list, ascending, of all STAKES that hold."""
    start, end = fit_stand(stand), fit_stand(goal)
    if bars(start, end):
        return []
    counts = counts_between(start, end)
    longest = gap(start[0], end[0], counts)
    stretches = [own for own in free_stretches(start[0], end[0], counts) if len(own) == longest]
    return sorted([(counts, tuple(sorted(own))) for own in stretches or [()]])


def why_no_fewer(stand, goal):
    """A STAKE that holds; CanNot() if none does."""
    found = stakes(stand, goal)
    if not found:
        raise CanNot()
    return found[0]


def is_why_no_fewer(stand, goal, thing):
    """Whether thing is a STAKE that holds."""
    return any([is_just(thing, own) for own in stakes(stand, goal)])


def fit_stake(stake):
    """The STAKE as a tuple of tuples, else Unfit()."""
    own = tupled(stake, 2)
    if not isinstance(own, tuple) or len(own) != 2:
        raise Unfit()
    return fit_counts(own[0]), fit_links(own[1])


def often_told(stake):
    """How often a ROW with as few tips as a STAKE tells goes over each LINK."""
    counts, stretch = stake
    return tuple([abs(counts[link]) or (0 if link in stretch else 2) for link in LINKS])


def tips_told(stake):
    """The number that a STAKE tells, whatever it holds for."""
    return sum(often_told(fit_stake(stake)))
