"""Least costs of PAYINGS by trying numbers; nothing here is taken from the package."""

import itertools


def cost_told(coins, numbers):
    return sum(2 if many == 0 and must else abs(many) for (_, _, must), many in zip(coins, numbers))


def numbers_of(coin, most):
    """All numbers of a COIN by size at most so great, odd as it is."""
    return [many for many in range(-most, most + 1) if many % 2 == int(coin[1])]


def least_of_all(coins, most):
    """For each number that is paid by numbers of at most this size: the least cost at which it is."""
    least = {}
    for numbers in itertools.product(*[numbers_of(coin, most) for coin in coins]):
        paid, cost = sum(coin[0] * many for coin, many in zip(coins, numbers)), cost_told(coins, numbers)
        if cost < least.get(paid, cost + 1):
            least[paid] = cost
    return least


def least_by_trying(coins, number):
    """The least cost, None without a PAYING: all but one COIN of the greatest value at most four times this value."""
    if not coins:
        return 0 if number == 0 else None
    *lesser, (value, odd, must) = sorted(coins)
    best = None
    for numbers in itertools.product(*[numbers_of(coin, 4 * value) for coin in lesser]):
        left = number
        for coin, many in zip(lesser, numbers):
            left -= coin[0] * many
        if left % (2 * value) != value * odd:
            continue
        last = abs(left // value)
        cost = sum(map(abs, numbers)) + last
        for coin, many in zip(lesser + [(value, odd, must)], numbers + (last,)):
            cost += 2 if coin[2] and many == 0 else 0
        if best is None or cost < best:
            best = cost
    return best
