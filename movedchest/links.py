"""LINKS gone over, however often either way, and those left free."""

from movedchest.counts import fit_counts, links_over, stand_by
from movedchest.errors import CanNot, TooMany, Unfit
from movedchest.kinds import are_numbers, is_from_to, tupled
from movedchest.shapes import LINKS, RING, arcs, fit_shape, position

MOST_LINKS = 2000


def often_gone(stand, row):
    """The tuple of how often row goes over each LINK, whichever way; CanNot() if a TURN is in it."""
    gone = [link for link, _ in links_over(stand, row)]
    return tuple([gone.count(link) for link in LINKS])


def gone_links(stand, row):
    """The set of the LINKS that row goes over; CanNot() if a TURN is in it."""
    often = often_gone(stand, row)
    return tuple([link for link in LINKS if often[link] > 0])


def free_links(counts):
    """The set of the LINKS of COUNT 0."""
    own = fit_counts(counts)
    return tuple([link for link in LINKS if own[link] == 0])


def links_from(start, end):
    """The list of the LINKS from position start on to position end; all six if they are one."""
    steps = (end - start) % 6
    return [(start + step) % 6 for step in range(steps if steps > 0 else 6)]


def free_runs(counts, links):
    """The list of the longest runs of COUNT 0 of these LINKS, which are one behind the other."""
    runs = []
    run = []
    for link in links:
        if counts[link] == 0:
            run.append(link)
        elif run:
            runs.append(tuple(run))
            run = []
    return runs + [tuple(run)] if run else runs


def free_stretches(shape, other, counts):
    """The set of the free stretches that are part of no longer one."""
    start, end = position(shape), position(other)
    own = fit_counts(counts)
    runs = free_runs(own, links_from(start, end))
    # A stretch ends where it comes to one of both SHAPES.
    if start != end:
        runs = runs + free_runs(own, links_from(end, start))
    return tuple(sorted(runs))


def gap(shape, other, counts):
    """How many LINKS a longest free stretch has; 0 if there is none."""
    return max([len(run) for run in free_stretches(shape, other, counts)], default=0)


def fit_often(often):
    """How often each LINK is gone over, as a tuple, else Unfit()."""
    own = tupled(often, 1)
    if not are_numbers(own, 6) or min(own) < 0:
        raise Unfit()
    return own


def hanging_on(start, often):
    """How many of the LINKS gone over hang together with position start."""
    onward = 0
    while onward < 6 and often[(start + onward) % 6] > 0:
        onward += 1
    backward = 0
    while onward + backward < 6 and often[(start - 1 - backward) % 6] > 0:
        backward += 1
    return onward + backward


def goes(shape, other, often):
    """Whether there is such a walk, of what is known to be fit."""
    odd = tuple([link for link in LINKS if often[link] % 2 == 1])
    # If they are an arc, other is one of the SHAPES that what is gone joins.
    return odd in arcs(shape, other) and hanging_on(position(shape), often) == 6 - often.count(0)


def can_go(shape, other, often):
    """Whether a walk from shape to other goes over each LINK just so often."""
    start, end = fit_shape(shape), fit_shape(other)
    return goes(start, end, fit_often(often))


def steps_from(shape):
    """The two pairs of a LINK at a SHAPE and the SHAPE at its other end."""
    here = position(shape)
    return (here, RING[(here + 1) % 6]), ((here - 1) % 6, RING[(here - 1) % 6])


def once_less(often, link):
    """often with this LINK once less."""
    return often[:link] + (often[link] - 1,) + often[link + 1:]


def first_step(shape, other, often):
    """A LINK with which such a walk begins, and the SHAPE come to, where there is such a walk."""
    onward, backward = steps_from(shape)
    link, beyond = onward
    if often[link] > 0 and goes(beyond, other, once_less(often, link)):
        return onward
    return backward


def walk_over(shape, other, often):
    """Such a walk, however long it is, where there is one."""
    here, left = shape, often
    walk = []
    for _ in range(sum(often)):
        link, here = first_step(here, other, left)
        left = once_less(left, link)
        walk.append(link)
    return tuple(walk)


def walk_for(shape, other, often):
    """A walk from shape to other that goes over each LINK just so often; CanNot(), TooMany()."""
    here, end = fit_shape(shape), fit_shape(other)
    left = fit_often(often)
    if not goes(here, end, left):
        raise CanNot()
    if sum(left) > MOST_LINKS:
        raise TooMany()
    return walk_over(here, end, left)


def is_walk_for(shape, other, often, thing):
    """Whether thing is such a walk."""
    here, end = fit_shape(shape), fit_shape(other)
    own = fit_often(often)
    if not isinstance(thing, tuple) or not all([is_from_to(link, 0, 5) for link in thing]):
        return False
    for link in thing:
        beyond = [far for at, far in steps_from(here) if at == link]
        if not beyond:
            return False
        here = beyond[0]
    return here == end and tuple([thing.count(link) for link in LINKS]) == own


def fronts_by(stand, shape, counts):
    """The FRONTS behind tips with counts from stand to this SHAPE; CanNot() if they do not lead there."""
    return stand_by(stand, shape, counts)[3]
