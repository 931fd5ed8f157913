"""CHESTS with told sides: the fewest turns to a told MIDDLE."""

from math import gcd

from movedchest.errors import CanNot, TooMany
from movedchest.rows import behind, is_row, turns_alone
from movedchest.shapes import fit_chest, fit_shape
from movedchest.slants import MOST_TURNS, can_turn_to, fewest_turns, shortest_turns, stand_at, turns_of
from movedchest.stands import fit_stand, is_stand, middle_of
from movedchest.told import fit_middle, way_left


def fit_there(chest, stand, shape, middle):
    """The quadruple of a CHEST, a STAND, a SHAPE and a MIDDLE, else Unfit()."""
    return fit_chest(chest), fit_stand(stand), fit_shape(shape), fit_middle(middle)


def lying_sides(chest, stand):
    """The pair of how long the sides are that lie along x and y."""
    i, j, _ = stand[0]
    return chest[i], chest[j]


def odd_pairs(stand, shape):
    """The list of what the pairs of SLANTS from stand to this SHAPE can be, the first and the second: 0 even, 1 odd."""
    i, j, k = stand[0]
    if shape == (i, j, k):
        return [(0, 0), (1, 1)]
    return [(0, 1), (1, 0)] if shape == (j, i, k) else []


def halves(chest, stand, middle):
    """The pair of p and q, None if they are not whole."""
    east, north = way_left(chest, stand, middle)
    return ((east + north) // 2, (east - north) // 2) if (east + north) % 2 == 0 else None


def double_common(chest, stand):
    """Twice the greatest number that divides both sides that lie."""
    a, b = lying_sides(chest, stand)
    return 2 * gcd(a, b)


def rest_of(chest, stand, odd):
    """What p and q, divided by double_common, leave if the pairs of SLANTS are odd as told."""
    a, b = lying_sides(chest, stand)
    u, v = odd
    double = double_common(chest, stand)
    return (a * u + b * v) % double, (b * u + a * v) % double


def odd_pairs_there(chest, stand, shape, middle):
    """The list of what the pairs of SLANTS can be that lead there; [] if no turns do."""
    told = halves(chest, stand, middle)
    if told is None:
        return []
    double = double_common(chest, stand)
    left = told[0] % double, told[1] % double
    return [odd for odd in odd_pairs(stand, shape) if rest_of(chest, stand, odd) == left]


def can_turn_there(chest, stand, shape, middle):
    """Whether turns lead to a STAND of this shape with this MIDDLE."""
    sides, start, end, sought = fit_there(chest, stand, shape, middle)
    return odd_pairs_there(sides, start, end, sought) != []


def line_of(a, b, number, odd):
    """What all pairs (one, other) with a one + b other = number are like that are odd as told, of which there are some.

    A quadruple: one and other of one of them, and by how much one grows and
    other falls from each of them to the next.
    """
    common = gcd(a, b)
    steps = 2 * b // common
    begun = [one for one in range(odd[0], steps, 2) if (number - a * one - b * odd[1]) % (2 * b) == 0]
    return begun[0], (number - a * begun[0]) // b, steps, 2 * a // common


def point_at(line, number):
    """The pair with this number of a line."""
    one, other, more, less = line
    return one + more * number, other - less * number


def lowest(function, most):
    """The least number, from -most to most, at which a function is least that never rises ahead of where it falls."""
    low, high = -most, most
    while low < high:
        half = (low + high) // 2
        if function(half + 1) >= function(half):
            high = half
        else:
            low = half + 1
    return low


def least_beside(point, line, most):
    """The least pair (turns, SLANTS) of SLANTS whose s and t are point, d and e in line; most: as in lowest."""
    s, t = point

    def slants_by(number):
        """The SLANTS with d and e at this number of the line."""
        d, e = point_at(line, number)
        return s, d, t, e

    best = slants_by(lowest(lambda number: sum(turns_of(slants_by(number))), most))
    return sum(turns_of(best)), best


def least_slants(sides, told, odd):
    """The pair (turns, SLANTS) of the fewest turns whose pairs are odd as told; sides: those that lie, told: p and q.

    For s and t as they are, d and e not needing to be whole, at_least(..) tells
    a number of turns, times the longer side, below which none come there. It
    falls, then rises along the line of s and t: from where it is least on one
    goes either way as long as fewer turns are not barred by it.
    """
    a, b = sides
    p, q = told
    near, far = line_of(a, b, p, odd), line_of(b, a, q, odd)
    most = abs(p) + abs(q) + 2

    def at_least(number):
        """So many turns, times the longer side, s and t at this number of their line need at least."""
        s, t = point_at(near, number)
        return max(a, b) * (abs(s) + abs(t)) + max(0, abs(q) - b * abs(s) - a * abs(t))

    begin = lowest(at_least, most)
    best = None
    for number, step in ((begin, 1), (begin - 1, -1)):
        while best is None or at_least(number) < max(a, b) * best[0]:
            s, t = point_at(near, number)
            own = least_beside((s, t), far, most + a * abs(t) + abs(s))
            best = own if best is None else min(best, own)
            number += step
    return best


def least_there(chest, stand, shape, middle):
    """The pair (turns, SLANTS) of the fewest turns that come there; CanNot() if none do."""
    sides, start, end, sought = fit_there(chest, stand, shape, middle)
    odds = odd_pairs_there(sides, start, end, sought)
    if not odds:
        raise CanNot()
    told = halves(sides, start, sought)
    return min([least_slants(lying_sides(sides, start), told, odd) for odd in odds])


def fewest_turns_to(chest, stand, shape, middle):
    """The fewest turns that come there; CanNot() if none do."""
    return least_there(chest, stand, shape, middle)[0]


def best_slants(chest, stand, shape, middle):
    """The SLANTS of a STAND that the fewest turns come to; CanNot() if none come there."""
    return least_there(chest, stand, shape, middle)[1]


def best_turn_goal(chest, stand, shape, middle):
    """The STAND that the fewest turns come to; CanNot() if none come there."""
    return stand_at(fit_stand(stand), best_slants(chest, stand, shape, middle))


def is_there(chest, stand, shape, middle):
    """Whether a STAND has this SHAPE and, with these sides, this MIDDLE."""
    return stand[0] == shape and middle_of(chest, stand) == middle


def is_best_turn_goal(chest, stand, shape, middle, thing):
    """Whether thing is a STAND that the fewest turns come to; False if none come there."""
    sides, start, end, sought = fit_there(chest, stand, shape, middle)
    if not is_stand(thing) or not is_there(sides, thing, end, sought) or not can_turn_to(start, thing):
        return False
    return fewest_turns(start, thing) == fewest_turns_to(sides, start, end, sought)


def turn_row(chest, stand, shape, middle):
    """A ROW of the fewest turns; CanNot() if none come there, TooMany() if it has more than 2,000."""
    turns, slants = least_there(chest, stand, shape, middle)
    if turns > MOST_TURNS:
        raise TooMany()
    start = fit_stand(stand)
    return shortest_turns(start, stand_at(start, slants))


def is_turn_row(chest, stand, shape, middle, thing):
    """Whether thing is a ROW of the fewest turns that comes there; False if none do."""
    sides, start, end, sought = fit_there(chest, stand, shape, middle)
    if not is_row(thing) or not turns_alone(thing) or not is_there(sides, behind(start, thing), end, sought):
        return False
    return len(thing) == fewest_turns_to(sides, start, end, sought)


def turn_rests(chest, stand, shape):
    """The set of the pairs that p and q leave, divided by double_common, if rows turn there; () for another shape."""
    sides, start, end = fit_chest(chest), fit_stand(stand), fit_shape(shape)
    return tuple(sorted(set([rest_of(sides, start, odd) for odd in odd_pairs(start, end)])))
