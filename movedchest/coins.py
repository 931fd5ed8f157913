"""COINS: what they pay, what bars it, and what it costs at the least."""

from math import gcd

from movedchest.errors import CanNot, Unfit
from movedchest.kinds import are_numbers, fit_number, is_number, tupled

MOST_COINS = 3
# What a COIN that must be touched costs at least.
TOUCHED = 2


def is_coin(thing):
    """Whether thing is a COIN."""
    if not isinstance(thing, tuple) or len(thing) != 3:
        return False
    value, odd, must = thing
    return is_number(value) and value >= 1 and isinstance(odd, bool) and isinstance(must, bool)


def is_coins(thing):
    """Whether thing is COINS."""
    return isinstance(thing, tuple) and len(thing) <= MOST_COINS and all([is_coin(own) for own in thing])


def fit_coins(coins):
    """The COINS as a tuple of tuples, else Unfit()."""
    own = tupled(coins, 2)
    if not is_coins(own):
        raise Unfit()
    return own


def above_odd(coins, number):
    """The number less the values of the odd COINS: what is left to be paid by each value an even number of times."""
    return number - sum([value for value, odd, _ in coins if odd])


def evenly_paid(coins):
    """Twice the greatest number that divides all values, 0 without COINS: multiples of it are paid evenly."""
    common = 0
    for value, _, _ in coins:
        common = gcd(common, value)
    return 2 * common


def divides(part, whole):
    """Whether whole is a multiple of part."""
    return whole == 0 if part == 0 else whole % part == 0


def can_pay(coins, number):
    """Whether there is a PAYING of number by COINS."""
    own, sought = fit_coins(coins), fit_number(number)
    return divides(evenly_paid(own), above_odd(own, sought))


def is_odd_as_told(coins, numbers):
    """Whether numbers are a tuple of numbers, one for each of COINS, odd exactly where it is odd."""
    if not are_numbers(numbers, len(coins)):
        return False
    return all([(many % 2 == 1) == coin[1] for coin, many in zip(coins, numbers)])


def paid_by(coins, numbers):
    """What is paid by so many of each of COINS."""
    return sum([coin[0] * many for coin, many in zip(coins, numbers)])


def pays(coins, number, numbers):
    """Whether numbers are a PAYING of number by COINS, both known to be such."""
    return is_odd_as_told(coins, numbers) and paid_by(coins, numbers) == number


def is_paying(coins, number, thing):
    """Whether thing is a PAYING of number by COINS."""
    own, sought = fit_coins(coins), fit_number(number)
    return pays(own, sought, thing)


def cost(coins, numbers):
    """What numbers cost that are odd as COINS tell."""
    return sum([TOUCHED if many == 0 and coin[2] else abs(many) for coin, many in zip(coins, numbers)])


def cost_of(coins, paying):
    """The cost of so many of each of COINS."""
    own, numbers = fit_coins(coins), tupled(paying, 1)
    if not is_odd_as_told(own, numbers):
        raise Unfit()
    return cost(own, numbers)


def numbers_to_try(coin, greatest):
    """The list of numbers of a COIN of which one costs the least, beside a COIN of the greatest value."""
    value, odd, _ = coin
    # So many are worth evenly many of the other, and no more of these: while enough are left, to exchange them is
    # no dearer.
    evenly_many = 2 * (greatest // gcd(value, greatest))
    most = evenly_many - 1 if odd else evenly_many
    return list(range(-most, most + 1, 2))


def two_to_try(coins, number, last):
    """The list of pairs of numbers of two COINS that leave of number what a last one, not lesser, pays by itself."""
    first, second = coins
    double = 2 * last[0]
    by_rest = {}
    for many in numbers_to_try(second, last[0]):
        by_rest.setdefault(second[0] * many % double, []).append(many)
    left = above_odd((last,), number)
    return [
        (own, many)
        for own in numbers_to_try(first, last[0])
        for many in by_rest.get((left - first[0] * own) % double, [])
    ]


def some_payings(coins, number):
    """The list of some PAYINGS by COINS with values ascending: one of them costs the least, if there are any."""
    if coins == ():
        return [()] if number == 0 else []
    lesser, last = coins[:-1], coins[-1]
    begun = [()]
    if len(lesser) == 1:
        begun = [(own,) for own in numbers_to_try(lesser[0], last[0])]
    elif len(lesser) == 2:
        begun = two_to_try(lesser, number, last)
    ended = [own + ((number - paid_by(lesser, own)) // last[0],) for own in begun]
    return [own for own in ended if pays(coins, number, own)]


def paying(coins, number):
    """A PAYING of the least cost; CanNot() if there is none."""
    own, sought = fit_coins(coins), fit_number(number)
    order = [at for _, at in sorted([(coin[0], at) for at, coin in enumerate(own)])]
    ascending = tuple([own[at] for at in order])
    found = some_payings(ascending, sought)
    if not found:
        raise CanNot()
    _, best = min([(cost(ascending, numbers), numbers) for numbers in found])
    return tuple([best[order.index(at)] for at in range(len(own))])


def least_cost(coins, number):
    """The least cost of a PAYING; CanNot() if there is none."""
    return cost_of(coins, paying(coins, number))


def is_least_paying(coins, number, thing):
    """Whether thing is a PAYING of the least cost."""
    return is_paying(coins, number, thing) and cost_of(coins, thing) == least_cost(coins, number)


def bar(coins, number):
    """A bar of COINS and number; CanNot() if there is a PAYING."""
    own, sought = fit_coins(coins), fit_number(number)
    if can_pay(own, sought):
        raise CanNot()
    # Without COINS any number is one that does not divide what is to be paid.
    return evenly_paid(own) if own else abs(sought) + 1


def is_bar(coins, number, thing):
    """Whether thing is a bar of COINS and number."""
    own, sought = fit_coins(coins), fit_number(number)
    if not is_number(thing) or thing < 2:
        return False
    return all([2 * coin[0] % thing == 0 for coin in own]) and above_odd(own, sought) % thing != 0
