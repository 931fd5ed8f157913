"""CHESTS with told sides: the fewest tips to a told MIDDLE."""

from movedchest.coins import bar, can_pay, cost_of, is_bar, paying
from movedchest.counts import stand_by
from movedchest.errors import CanNot, TooMany, Unfit
from movedchest.fewest import MOST_TIPS, shortest_tips
from movedchest.kinds import are_numbers, fit_from_to, is_from_to, negative, summed, tupled
from movedchest.links import links_from
from movedchest.rows import behind, is_row, tips_alone
from movedchest.shapes import LINK_SIDES, arcs, fit_chest, fit_links, fit_shape, position
from movedchest.stands import fit_stand, middle_of

AXES = (0, 1)
# The LINKS that tips along x, along y go over.
AXIS_LINKS = ((0, 2, 4), (1, 3, 5))


def fit_middle(middle):
    """The MIDDLE as a tuple, else Unfit()."""
    own = tupled(middle, 1)
    if not are_numbers(own, 2):
        raise Unfit()
    return own


def coin_of(chest, arc, link, must):
    """The COIN of a LINK."""
    return sum(chest) - chest[LINK_SIDES[link]], link in arc, must


def link_coins(chest, arc, axis):
    """The COINS of arc and axis."""
    sides, links = fit_chest(chest), fit_links(arc)
    own = AXIS_LINKS[fit_from_to(axis, 0, 1)]
    return tuple([coin_of(sides, links, link, False) for link in own])


def way_left(chest, stand, middle):
    """The pair of how far the MIDDLE of stand is from middle, for x and y."""
    here = middle_of(chest, stand)
    return summed(fit_middle(middle), negative(here))


def axis_barred(chest, arc, left):
    """The first axis of which the way left can't be paid by the COINS of arc; None if both can."""
    for axis in AXES:
        if not can_pay(link_coins(chest, arc, axis), left[axis]):
            return axis
    return None


def both_arcs(stand, shape):
    """The pair of the arcs of the SHAPE of stand and shape, else Unfit()."""
    return arcs(fit_stand(stand)[0], fit_shape(shape))


def can_tip_there(chest, stand, shape, middle):
    """Whether tips lead to a STAND of this shape with this MIDDLE."""
    sides = fit_chest(chest)
    told = both_arcs(stand, shape)
    left = way_left(sides, stand, middle)
    return any([axis_barred(sides, arc, left) is None for arc in told])


def runs_beside(shape, arc):
    """The list of the runs of LINKS that are no part of an arc that begins or ends at shape; () too."""
    start = position(shape)
    beside = [link for link in links_from(start, start) if link not in arc]
    many = len(beside)
    return [()] + [tuple(beside[low:high]) for low in range(many) for high in range(low + 1, many + 1)]


def paid_without(chest, arc, links, number):
    """The pair of the least cost at which number is paid by the COINS of these LINKS, and the list of (LINK, COUNT).

    None if it can't be paid. Each COIN must be touched: its LINK is gone over.
    """
    coins = tuple([coin_of(chest, arc, link, True) for link in links])
    if not can_pay(coins, number):
        return None
    numbers = paying(coins, number)
    return cost_of(coins, numbers), list(zip(links, numbers))


def paid_by_runs(chest, arc, runs, axis, number):
    """The list of what paid_without tells of axis, for each run of LINKS that is left out."""
    known = {}
    paid = []
    for run in runs:
        links = tuple([link for link in AXIS_LINKS[axis] if link not in run])
        if links not in known:
            known[links] = paid_without(chest, arc, links, number)
        paid.append(known[links])
    return paid


def counts_told(pairs):
    """The COUNTS of pairs (LINK, COUNT), 0 for others."""
    counts = [0, 0, 0, 0, 0, 0]
    for link, count in pairs:
        counts[link] = count
    return tuple(counts)


def fewest_counts(chest, stand, shape, middle):
    """The least pair of the fewest tips and COUNTS that need so many; CanNot() if no tips come there."""
    sides, start, end = fit_chest(chest), fit_stand(stand), fit_shape(shape)
    left = way_left(sides, start, middle)
    found = []
    for arc in arcs(start[0], end):
        runs = runs_beside(start[0], arc)
        over_x, over_y = [paid_by_runs(sides, arc, runs, axis, left[axis]) for axis in AXES]
        for along_x, along_y in zip(over_x, over_y):
            if along_x is not None and along_y is not None:
                found.append((along_x[0] + along_y[0], counts_told(along_x[1] + along_y[1])))
    if not found:
        raise CanNot()
    return min(found)


def fewest_to(chest, stand, shape, middle):
    """The fewest tips that come there; CanNot() if none do."""
    return fewest_counts(chest, stand, shape, middle)[0]


def best_counts(chest, stand, shape, middle):
    """The COUNTS of a row of the fewest tips; CanNot() if none come there."""
    return fewest_counts(chest, stand, shape, middle)[1]


def best_goal(chest, stand, shape, middle):
    """The STAND to which such a row leads; CanNot() if no tips come there."""
    return stand_by(stand, shape, best_counts(chest, stand, shape, middle))


def tip_row(chest, stand, shape, middle):
    """A ROW of the fewest tips; CanNot() if none come there, TooMany() if it has more than 2,000."""
    tips, counts = fewest_counts(chest, stand, shape, middle)
    if tips > MOST_TIPS:
        raise TooMany()
    return shortest_tips(stand, stand_by(stand, shape, counts))


def is_tip_row(chest, stand, shape, middle, thing):
    """Whether thing is a ROW of the fewest tips that comes there."""
    sides, start, end, sought = fit_chest(chest), fit_stand(stand), fit_shape(shape), fit_middle(middle)
    if not is_row(thing) or not tips_alone(thing):
        return False
    there = behind(start, thing)
    if there[0] != end or middle_of(sides, there) != sought:
        return False
    return len(thing) == fewest_to(sides, start, end, sought)


def why_never(chest, stand, shape, middle):
    """For each arc the pair of an axis and a bar of its COINS; CanNot() if tips come there."""
    sides = fit_chest(chest)
    told = both_arcs(stand, shape)
    left = way_left(sides, stand, middle)
    barred = [axis_barred(sides, arc, left) for arc in told]
    if None in barred:
        raise CanNot()
    return tuple([(axis, bar(link_coins(sides, arc, axis), left[axis])) for arc, axis in zip(told, barred)])


def is_why_never(chest, stand, shape, middle, thing):
    """Whether thing is such a pair."""
    sides = fit_chest(chest)
    told = both_arcs(stand, shape)
    left = way_left(sides, stand, middle)
    if not isinstance(thing, tuple) or len(thing) != 2 or not all([are_numbers(own, 2) for own in thing]):
        return False
    if not all([is_from_to(axis, 0, 1) for axis, _ in thing]):
        return False
    return all([is_bar(link_coins(sides, arc, own[0]), left[own[0]], own[1]) for arc, own in zip(told, thing)])
