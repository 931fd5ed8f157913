"""Cubes and bars: CHESTS whose like sides are not told apart."""

from itertools import product

from movedchest.barred import can_tip_to
from movedchest.counts import can_lead, size_of, stand_by
from movedchest.errors import CanNot
from movedchest.fewest import fewest_tips
from movedchest.kinds import fit_from_to
from movedchest.links import gap
from movedchest.shapes import LINK_SIDES, RING
from movedchest.slants import shifts_between
from movedchest.stands import fit_stand, is_stand
from movedchest.told import AXES, AXIS_LINKS

# Of COUNTS of an axis whose sum is told, and which are odd (of a bar), which leave what when divided by 4 (of a
# cube), all but one have at most these sizes: of two greater ones one gives the other as much as it can do without.
GREATEST_OF_BAR = 2
GREATEST_OF_CUBE = 4


def halved(numbers):
    """Half of each of the numbers, as a tuple; CanNot() if one is odd."""
    if any([number % 2 == 1 for number in numbers]):
        raise CanNot()
    return tuple([number // 2 for number in numbers])


def half_sums(stand, goal):
    """The sums of the COUNTS of both axes: half of how much more xs, ys of goal add up to; CanNot() if one is odd."""
    return halved([sum(more) for more in shifts_between(stand, goal)])


def put_among(pair, place, number):
    """The triple of the numbers of a pair and, at this place, number."""
    return pair[:place] + (number,) + pair[place:]


def tips_for(shape, other, counts):
    """How many tips at the fewest have COUNTS that lead from shape to other."""
    return size_of(counts) + 2 * (counts.count(0) - gap(shape, other, counts))


def fewest_of(stand, shapes, fronts, along_axes):
    """The least pair (tips, STAND come to) of STANDS with one of these SHAPES, and these FRONTS, None for any.

    along_axes: for each axis the list of the triples of its COUNTS to be
    tried. CanNot() if none leads there.
    """
    found = []
    for over_x, over_y in product(along_axes[0], along_axes[1]):
        counts = tuple([count for both in zip(over_x, over_y) for count in both])
        for shape in shapes:
            if can_lead(stand[0], shape, counts):
                there = stand_by(stand, shape, counts)
                if fronts is None or there[3] == fronts:
                    found.append((tips_for(stand[0], shape, counts), there))
    if not found:
        raise CanNot()
    return min(found)


def sums_of(stand):
    """The pair of the sums of xs and ys."""
    return sum(stand[1]), sum(stand[2])


def cube_seen(stand):
    """The quadruple of half of the sums of xs and ys, the SHAPE and the FRONTS; CanNot() if a sum is odd."""
    own = fit_stand(stand)
    x, y = halved(sums_of(own))
    return x, y, own[0], own[3]


def cube_triples(number):
    """The list of the triples of COUNTS of an axis to be tried, together number.

    FRONTS hang on what COUNTS leave when divided by 4, free stretches on which
    are 0: of triples alike in these one of the least size will do.
    """
    least = {}
    sizes = list(range(-GREATEST_OF_CUBE, GREATEST_OF_CUBE + 1))
    for place in range(3):
        for pair in product(sizes, sizes):
            triple = put_among(pair, place, number - sum(pair))
            alike = tuple([(count % 4, int(count == 0)) for count in triple])
            own = sum([abs(count) for count in triple]), triple
            least[alike] = min(least.get(alike, own), own)
    return [triple for _, triple in least.values()]


def cube_there(stand, goal):
    """The pair (tips, STAND come to) of the fewest tips to a STAND that looks like goal as cubes; CanNot()."""
    start, end = fit_stand(stand), fit_stand(goal)
    along_axes = [cube_triples(number) for number in half_sums(start, end)]
    return fewest_of(start, [end[0]], end[3], along_axes)


def cube_fewest(stand, goal):
    """The fewest tips to a STAND that looks like goal as cubes; CanNot() if none come there."""
    return cube_there(stand, goal)[0]


def cube_best(stand, goal):
    """A STAND that looks like goal as cubes, come to by the fewest tips; CanNot() if none come there."""
    return cube_there(stand, goal)[1]


def is_cube_best(stand, goal, thing):
    """Whether thing is such a STAND; CanNot() if no tips come there."""
    start, end = fit_stand(stand), fit_stand(goal)
    tips = cube_fewest(start, end)
    if not is_stand(thing) or sums_of(thing) != sums_of(end) or (thing[0], thing[3]) != (end[0], end[3]):
        return False
    return can_tip_to(start, thing) and fewest_tips(start, thing) == tips


def blank_fewest(stand, goal):
    """The fewest tips to a STAND that looks like goal as blank cubes; CanNot() if none come there."""
    start, end = fit_stand(stand), fit_stand(goal)
    return sum([abs(number) for number in half_sums(start, end)])


def fit_side(side):
    """The number of a side, else Unfit()."""
    return fit_from_to(side, 0, 2)


def bar_seen(stand, side):
    """The quintuple of the place of side in the SHAPE, and for xs and ys the number at side and the others' sum."""
    own = fit_stand(stand)
    at = fit_side(side)
    shape, xs, ys, _ = own
    return shape.index(at), xs[at], sum(xs) - xs[at], ys[at], sum(ys) - ys[at]


def bar_triples(axis, side, number, others):
    """The list of the triples of COUNTS of an axis to be tried, together number, and others but for side's LINK."""
    place = [LINK_SIDES[link] for link in AXIS_LINKS[axis]].index(side)
    found = []
    for one in range(-GREATEST_OF_BAR, GREATEST_OF_BAR + 1):
        for pair in ((one, others - one), (others - one, one)):
            found.append(put_among(pair, place, number - others))
    return found


def bar_there(stand, goal, side):
    """The pair (tips, STAND come to) of the fewest tips to a STAND that looks like goal as bars of side; CanNot()."""
    start, end, at = fit_stand(stand), fit_stand(goal), fit_side(side)
    more = shifts_between(start, end)
    sums = half_sums(start, end)
    along_axes = [bar_triples(axis, at, sums[axis], more[axis][at]) for axis in AXES]
    shapes = [shape for shape in RING if shape.index(at) == end[0].index(at)]
    return fewest_of(start, shapes, None, along_axes)


def bar_fewest(stand, goal, side):
    """The fewest tips to a STAND that looks like goal as bars of side; CanNot() if none come there."""
    return bar_there(stand, goal, side)[0]


def bar_best(stand, goal, side):
    """A STAND that looks like goal as bars of side, come to by the fewest tips; CanNot() if none come there."""
    return bar_there(stand, goal, side)[1]


def is_bar_best(stand, goal, side, thing):
    """Whether thing is such a STAND; CanNot() if no tips come there."""
    start, end, at = fit_stand(stand), fit_stand(goal), fit_side(side)
    tips = bar_fewest(start, end, at)
    if not is_stand(thing) or bar_seen(thing, at) != bar_seen(end, at):
        return False
    return can_tip_to(start, thing) and fewest_tips(start, thing) == tips
