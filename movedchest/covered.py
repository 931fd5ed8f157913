"""Which MIDDLES tips, or turns, can come to: told by what divisors leave."""

from math import gcd

from movedchest.counts import middle_shift
from movedchest.errors import TooMany
from movedchest.kinds import fit_number, summed
from movedchest.shapes import LINKS, RING, arcs, fit_chest, fit_shape
from movedchest.stands import fit_stand, middle_of
from movedchest.told import can_tip_there, fit_middle
from movedchest.toldturns import double_common, turn_rests

MOST_MIDDLES = 2000


def spacing(chest):
    """Twice the greatest number that divides the sum of each two sides."""
    a, b, c = fit_chest(chest)
    return 2 * gcd(gcd(a + b, b + c), a + c)


def rests_of(middles, wide):
    """The set of the pairs of what both numbers of MIDDLES leave, divided by wide."""
    return tuple(sorted(set([(east % wide, north % wide) for east, north in middles])))


def rests_there(chest, stand, shape):
    """The set of what MIDDLES leave, divided by the spacing, that tips come to with this shape."""
    sides, start, end = fit_chest(chest), fit_stand(stand), fit_shape(shape)
    once_over = [tuple([int(link in arc) for link in LINKS]) for arc in arcs(start[0], end)]
    here = middle_of(sides, start)
    return rests_of([summed(here, middle_shift(sides, counts)) for counts in once_over], spacing(sides))


def shapes_there(chest, stand, middle):
    """The set of the SHAPES with which tips come to middle."""
    sides, start, sought = fit_chest(chest), fit_stand(stand), fit_middle(middle)
    return tuple(sorted([shape for shape in RING if can_tip_there(sides, start, shape, sought)]))


def numbers_beside(number, rest, wide):
    """The greatest number up to this one and the least one from it on that leave rest, divided by wide."""
    return number - (number - rest) % wide, number + (rest - number) % wide


def nearest_there(chest, stand, shape, middle):
    """Of the MIDDLES that tips come to with this shape the one nearest to middle; of several the least."""
    sides, start, end = fit_chest(chest), fit_stand(stand), fit_shape(shape)
    sought = fit_middle(middle)
    wide = spacing(sides)
    found = []
    for east, north in rests_there(sides, start, end):
        for x in numbers_beside(sought[0], east, wide):
            for y in numbers_beside(sought[1], north, wide):
                found.append((abs(x - sought[0]) + abs(y - sought[1]), (x, y)))
    return min(found)[1]


def first_from(low, rest, wide):
    """The least number from low on that leaves rest, divided by wide."""
    return low + (rest - low) % wide


def how_many_within(rest, wide, low, high):
    """How many numbers from low to high leave rest, divided by wide."""
    return max(0, (high - first_from(low, rest, wide)) // wide + 1)


def numbers_within(rest, wide, low, high):
    """The list of them."""
    return list(range(first_from(low, rest, wide), high + 1, wide))


def listed_within(rests, wide, low, high):
    """The list, ascending, of the MIDDLES from low to high that leave one of these pairs; TooMany() above 2,000."""
    many = [how_many_within(east, wide, low, high) * how_many_within(north, wide, low, high) for east, north in rests]
    if sum(many) > MOST_MIDDLES:
        raise TooMany()
    found = []
    for east, north in rests:
        ys = numbers_within(north, wide, low, high)
        found.extend([(x, y) for x in numbers_within(east, wide, low, high) for y in ys])
    return sorted(found)


def middles_in(chest, stand, shape, low, high):
    """The list, ascending, of the MIDDLES from low to high that tips come to with this shape; TooMany()."""
    sides, start, end = fit_chest(chest), fit_stand(stand), fit_shape(shape)
    least, most = fit_number(low), fit_number(high)
    return listed_within(rests_there(sides, start, end), spacing(sides), least, most)


def turned_rests(chest, stand, shape):
    """The set of what MIDDLES leave, divided by twice double_common, to which rows turn with this shape.

    p and q are told but for multiples of double_common, so their sum and their
    difference but for two such multiples that are both odd or both even.
    """
    double = double_common(chest, stand)
    here = middle_of(chest, stand)
    ways = [(p + q + more, p - q + more) for p, q in turn_rests(chest, stand, shape) for more in (0, double)]
    return rests_of([summed(here, way) for way in ways], 2 * double)


def turns_in(chest, stand, shape, low, high):
    """The list, ascending, of the MIDDLES from low to high to which rows turn with this shape; TooMany()."""
    sides, start, end = fit_chest(chest), fit_stand(stand), fit_shape(shape)
    least, most = fit_number(low), fit_number(high)
    return listed_within(turned_rests(sides, start, end), 2 * double_common(sides, start), least, most)
