"""ROWS of tips of the least price: each LINK has a PRICE."""

from movedchest.barred import can_tip_to, often_told
from movedchest.counts import counts_between, links_over
from movedchest.errors import CanNot, TooMany
from movedchest.fewest import MOST_TIPS, tips_told_by
from movedchest.links import fit_often, free_stretches
from movedchest.rows import behind, fit_row, is_row, tips_alone
from movedchest.shapes import LINKS, fit_link
from movedchest.stands import fit_stand


def fit_prices(prices):
    """The PRICES as a tuple, else Unfit()."""
    # They are what else tells how often each LINK is gone over: six numbers from 0.
    return fit_often(prices)


def fit_priced(stand, goal, prices):
    """The triple of two STANDS and PRICES, else Unfit()."""
    return fit_stand(stand), fit_stand(goal), fit_prices(prices)


def priced(prices, often):
    """The price of going over each LINK so often."""
    return sum([price * many for price, many in zip(prices, often)])


def price_of(stand, row, prices):
    """The price of row from stand on; CanNot() if a TURN is in it."""
    start, own, told = fit_stand(stand), fit_row(row), fit_prices(prices)
    return sum([told[link] for link, _ in links_over(start, own)])


def cheap_stake(stand, goal, prices):
    """The pair of the COUNTS and of the LINKS of a free stretch that cheap ROWS leave; CanNot() if no tips lead there.

    More PRICES, and more LINKS at like ones, are never left by a part of a
    stretch: so those that are part of no longer one will do.
    """
    if not can_tip_to(stand, goal):
        raise CanNot()
    counts = counts_between(stand, goal)
    stretches = [tuple(sorted(own)) for own in free_stretches(stand[0], goal[0], counts)]
    left = [(-sum([prices[link] for link in own]), -len(own), own) for own in stretches]
    return counts, min(left)[2] if left else ()


def cheapest(stand, goal, prices):
    """The least price of ROWS of tips from stand to goal; CanNot() if none lead there."""
    return cheap_and_few(stand, goal, prices)[0]


def cheap_and_few(stand, goal, prices):
    """The pair of the least price and of how many tips cheap ROWS have; CanNot() if none lead there."""
    start, end, told = fit_priced(stand, goal, prices)
    often = often_told(cheap_stake(start, end, told))
    return priced(told, often), sum(often)


def left_links(stand, goal, prices):
    """The least set of LINKS of a free stretch, or (), over which a cheap ROW does not go; CanNot() without a ROW."""
    start, end, told = fit_priced(stand, goal, prices)
    return cheap_stake(start, end, told)[1]


def cheap_plan(stand, goal, prices):
    """A cheap ROW from stand to goal; CanNot() if none leads there, TooMany() if it has more than 2,000 tips."""
    start, end, told = fit_priced(stand, goal, prices)
    stake = cheap_stake(start, end, told)
    if sum(often_told(stake)) > MOST_TIPS:
        raise TooMany()
    return tips_told_by(start, end, stake)


def is_cheap_plan(stand, goal, prices, thing):
    """Whether thing is a cheap ROW from stand to goal; CanNot() if none leads there."""
    start, end, told = fit_priced(stand, goal, prices)
    price, tips = cheap_and_few(start, end, told)
    if not is_row(thing) or len(thing) != tips or not tips_alone(thing):
        return False
    return behind(start, thing) == end and price_of(start, thing, told) == price


def dearer(stand, goal, prices, link):
    """By how much cheapest grows if the PRICE of link is 1 more; NoLink(link), CanNot() if no tips lead there."""
    start, end, told = fit_priced(stand, goal, prices)
    own = fit_link(link)
    grown = tuple([told[at] + 1 if at == own else told[at] for at in LINKS])
    return cheapest(start, end, grown) - cheapest(start, end, told)
