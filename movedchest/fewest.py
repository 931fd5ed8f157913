"""The fewest tips from STAND to STAND."""

from movedchest.barred import often_told, stakes, tips_told, why_no_fewer
from movedchest.counts import size_of
from movedchest.errors import CanNot, TooMany
from movedchest.links import walk_over
from movedchest.rows import behind, is_row, tips_alone
from movedchest.shapes import LINKS, link_ways
from movedchest.stands import WAYS, fit_stand, step_by

MOST_TIPS = 2000


def fewest_tips(stand, goal):
    """How many tips at the fewest lead from stand to goal; CanNot() if none do."""
    return tips_told(why_no_fewer(stand, goal))


def first_tips(stand, goal):
    """The set of the WAYS of the tips with which a shortest ROW can begin."""
    start, end = fit_stand(stand), fit_stand(goal)
    tips = fewest_tips(start, end)
    return tuple([way for way in WAYS if fewest_tips(step_by(start, ("tip", way)), end) < tips])


def tips_along(walk, counts):
    """The ROW of tips over the LINKS of walk whose COUNTS are these.

    By walk a LINK is gone over as often as its COUNT has size, or to and fro.
    Each tip may go either of both WAYS, from whichever end of the LINK.
    """
    left = list(counts)
    row = []
    for link in walk:
        onward, backward = link_ways(link)
        if left[link] >= 0:
            row.append(("tip", onward))
            left[link] -= 1
        else:
            row.append(("tip", backward))
            left[link] += 1
    return tuple(row)


def tips_told_by(stand, goal, stake):
    """A ROW of just the tips that a STAKE tells, whose stretch may be any free stretch, or ()."""
    return tips_along(walk_over(stand[0], goal[0], often_told(stake)), stake[0])


def shortest_tips(stand, goal):
    """A shortest ROW of tips that leads there, however long it is."""
    start, end = fit_stand(stand), fit_stand(goal)
    return tips_told_by(start, end, why_no_fewer(start, end))


def plan(stand, goal):
    """A shortest ROW of tips that leads there; TooMany() if it has more than 2,000."""
    if fewest_tips(stand, goal) > MOST_TIPS:
        raise TooMany()
    return shortest_tips(stand, goal)


def is_plan(stand, goal, thing):
    """Whether thing is a shortest ROW of tips that leads there."""
    tips = fewest_tips(stand, goal)
    if not is_row(thing) or len(thing) != tips or not tips_alone(thing):
        return False
    return behind(stand, thing) == fit_stand(goal)


def spare_tips(stand, goal):
    """How many tips more than the sizes of the COUNTS added up."""
    stake = why_no_fewer(stand, goal)
    return tips_told(stake) - size_of(stake[0])


def all_often(stand, goal):
    """The list, ascending, of how often shortest ROWS go over each LINK, for each STAKE that holds; CanNot()."""
    found = stakes(stand, goal)
    if not found:
        raise CanNot()
    return sorted([often_told(own) for own in found])


def sure_links(stand, goal):
    """The set of the LINKS over which each shortest ROW goes."""
    told = all_often(stand, goal)
    return tuple([link for link in LINKS if min([often[link] for often in told]) > 0])


def gone_by(stand, goal):
    """The tuple of how often at the most a shortest ROW goes over each LINK."""
    told = all_often(stand, goal)
    return tuple([max([often[link] for often in told]) for link in LINKS])
