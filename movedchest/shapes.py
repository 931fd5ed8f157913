"""CHESTS, WAYS, and the SHAPES on their RING with its LINKS."""

from movedchest.errors import CanNot, NoLink, Unfit
from movedchest.kinds import are_numbers, fit_from_to, fit_number, is_ascending, is_from_to, tupled

RING = ((0, 1, 2), (2, 1, 0), (2, 0, 1), (1, 0, 2), (1, 2, 0), (0, 2, 1))
LINKS = (0, 1, 2, 3, 4, 5)
LINK_SIDES = (1, 2, 0, 1, 2, 0)
SIDES = (0, 1, 2)


def is_chest(thing):
    """Whether thing is a CHEST."""
    return are_numbers(thing, 3) and min(thing) >= 1


def fit_chest(chest):
    """The CHEST as a tuple, else Unfit()."""
    own = tupled(chest, 1)
    if not is_chest(own):
        raise Unfit()
    return own


def is_shape(thing):
    """Whether thing is a SHAPE."""
    return are_numbers(thing, 3) and thing in RING


def fit_shape(shape):
    """The SHAPE as a tuple, else Unfit()."""
    own = tupled(shape, 1)
    if not is_shape(own):
        raise Unfit()
    return own


def fit_way(way):
    """The WAY, else Unfit()."""
    return fit_from_to(way, 0, 3)


def fit_link(link):
    """The number of a LINK; Unfit() if it is no number, else NoLink(link) if it is none of a LINK."""
    if fit_number(link) not in LINKS:
        raise NoLink(link)
    return link


def fit_links(links):
    """The set of LINKS as a tuple, ascending, else Unfit()."""
    own = tupled(links, 1)
    if not isinstance(own, tuple) or not all([is_from_to(link, 0, 5) for link in own]):
        raise Unfit()
    if not is_ascending(own):
        raise Unfit()
    return own


def shapes():
    """The list of the six SHAPES in the order of the RING."""
    return list(RING)


def position(shape):
    """The position of a SHAPE on the RING."""
    return RING.index(fit_shape(shape))


def shape_at(number):
    """The SHAPE of this position."""
    return RING[fit_from_to(number, 0, 5)]


def link_ends(link):
    """The pair of the SHAPES that a LINK joins, the one at position link first."""
    own = fit_link(link)
    return RING[own], RING[(own + 1) % 6]


def link_side(link):
    """The side that stays as it lies when this LINK is gone over."""
    return LINK_SIDES[fit_link(link)]


def link_ways(link):
    """The pair of the WAYS of the tips over a LINK, the one that counts 1 first."""
    return (0, 2) if fit_link(link) % 2 == 0 else (1, 3)


def link_over(shape, way):
    """The LINK over which a tip by way goes from shape."""
    start = position(shape)
    # East and west go over even LINKS, north and south over odd ones.
    if start % 2 == fit_way(way) % 2:
        return start
    return (start - 1) % 6


def other_shape(shape, link):
    """The SHAPE at the other end of link; CanNot() if shape is at none of its ends."""
    own = fit_shape(shape)
    first, second = link_ends(link)
    if own == first:
        return second
    if own == second:
        return first
    raise CanNot()


def link_between(shape, other):
    """The LINK that joins both SHAPES; CanNot() if none does."""
    start, end = position(shape), position(other)
    if (start + 1) % 6 == end:
        return start
    if (end + 1) % 6 == start:
        return end
    raise CanNot()


def arcs(shape, other):
    """The pair of both arcs of two SHAPES, the one that goes on from position(shape) first."""
    start, end = position(shape), position(other)
    steps = (end - start) % 6
    onward = sorted([(start + step) % 6 for step in range(steps)])
    return tuple(onward), tuple([link for link in LINKS if link not in onward])


def ring_steps(shape, other):
    """How many LINKS the arc with fewer has."""
    onward, backward = arcs(shape, other)
    return min(len(onward), len(backward))
