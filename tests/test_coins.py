"""[17]: COINS, beside searches of PAYINGS."""

import itertools
import unittest

from movedchest.coins import (
    bar, can_pay, cost_of, is_bar, is_coins, is_least_paying, is_paying, least_cost, paying,
)
from movedchest.errors import CanNot, Unfit
from tests.drawn import Draw
from tests.paying import cost_told, least_by_trying, least_of_all, numbers_of

TWO = ((3, False, False), (5, True, False))
GREAT = 10 ** 14


def drawn_coins(draw, many, most):
    return tuple((draw.chance.randint(1, most), draw.chance.random() < 0.5, draw.chance.random() < 0.5)
                 for _ in range(many))


def some_coins(seed, times, most):
    """COINS of none, one, two, three, some odd, some with must, some of one value."""
    draw = Draw(seed)
    for _ in range(times):
        for many in range(4):
            yield drawn_coins(draw, many, most)
    for odd, must in itertools.product(itertools.product((True, False), repeat=3), repeat=2):
        value = draw.chance.randint(1, most)
        yield tuple((value, *own) for own in zip(odd, must))


class Kinds(unittest.TestCase):
    def test_coins(self):
        for thing in ((), TWO, ((1, True, True),), ((10 ** 40, False, True),) * 3):
            self.assertIs(is_coins(thing), True)
        for thing in ([], list(TWO), ([3, False, False],), ((3, False, False),) * 4, ((0, False, False),),
                      ((-1, False, False),), ((True, False, False),), ((3, 0, 1),), ((3, False, 0),),
                      ((3, 1, False),), ((3, False),), ((3, None, False),), (3, False, False),
                      ((3, False, False, False),), (((3, False, False),),), None, True, 3, "", ("",), (None,),
                      (("3", False, False),), ((3, "", False),), ((3, False, ()),)):
            self.assertIs(is_coins(thing), False, thing)


class Small(unittest.TestCase):
    """All PAYINGS of numbers by size to 28 give the least cost of each number to 20: values are 6 at the most."""

    def test_beside_all_payings(self):
        for coins in some_coins(501, 6, 6):
            least = least_of_all(coins, 28)
            for number in range(-20, 21):
                told = least.get(number)
                self.assertIs(can_pay(coins, number), told is not None)
                if told is None:
                    for function in (least_cost, paying):
                        with self.assertRaises(CanNot):
                            function(coins, number)
                    self.assertIs(is_least_paying(coins, number, (0,) * len(coins)), False)
                    self.assertIs(is_bar(coins, number, bar(coins, number)), True)
                    continue
                self.assertEqual(least_cost(coins, number), told)
                numbers = paying(coins, number)
                self.assertEqual(sum(coin[0] * many for coin, many in zip(coins, numbers)), number)
                self.assertTrue(all(many % 2 == int(coin[1]) for coin, many in zip(coins, numbers)))
                self.assertEqual(cost_told(coins, numbers), told)
                self.assertIs(is_least_paying(coins, number, numbers), True)
                with self.assertRaises(CanNot):
                    bar(coins, number)

    def test_a_paying_or_a_bar_never_both(self):
        for coins in some_coins(502, 6, 9):
            base = sum(value for value, odd, _ in coins if odd)
            for number in range(-12, 13):
                bars = [own for own in range(2, 40)
                        if not any(2 * coin[0] % own for coin in coins) and (number - base) % own]
                told = [own for own in range(-5, 40) if is_bar(coins, number, own)]
                self.assertEqual(told, bars)
                self.assertEqual(can_pay(coins, number), not bars)
                if bars:
                    found = bar(coins, number)
                    self.assertIs(is_bar(coins, number, found), True)
                    self.assertGreater(found, 1)

    def test_is_paying_beside_all_numbers(self):
        for coins in some_coins(503, 3, 5):
            for numbers in itertools.product(range(-3, 4), repeat=len(coins)):
                odd = all((many % 2 == 1) == coin[1] for coin, many in zip(coins, numbers))
                paid = sum(coin[0] * many for coin, many in zip(coins, numbers))
                self.assertIs(is_paying(coins, paid, numbers), odd)
                self.assertIs(is_paying(coins, paid + 1, numbers), False)
                if odd:
                    self.assertEqual(cost_of(coins, numbers), cost_told(coins, numbers))
                    self.assertIs(is_least_paying(coins, paid, numbers),
                                  cost_told(coins, numbers) == least_cost(coins, paid))
                else:
                    with self.assertRaises(Unfit):
                        cost_of(coins, numbers)

    def test_order_of_coins(self):
        draw = Draw(504)
        for _ in range(40):
            coins = drawn_coins(draw, 3, 12)
            number = draw.number(200)
            costs = {least_cost(own, number) for own in itertools.permutations(coins) if can_pay(own, number)}
            self.assertLess(len(costs), 2)
            for own in itertools.permutations(coins):
                if costs:
                    self.assertIs(is_least_paying(own, number, paying(own, number)), True)


class Great(unittest.TestCase):
    def check(self, coins, number):
        told = least_by_trying(coins, number)
        self.assertIs(can_pay(coins, number), told is not None)
        if told is not None:
            self.assertEqual(least_cost(coins, number), told)
            self.assertIs(is_least_paying(coins, number, paying(coins, number)), True)
            self.assertEqual(cost_of(coins, paying(coins, number)), told)

    def test_beside_trying(self):
        draw = Draw(511)
        for coins in some_coins(511, 20, 12):
            for most in (50, 1000, GREAT):
                number = draw.number(most)
                self.check(coins, number)
                # One that is surely paid.
                self.check(coins, sum(coin[0] * (2 * draw.number(most // 100) + int(coin[1])) for coin in coins))

    def test_values_to_120(self):
        draw = Draw(512)
        self.check(((120, False, True), (119, True, False)), GREAT - 1)
        self.check(((119, True, True), (120, False, False)), -GREAT + 1)
        for coins in (((120, False, True), (119, True, False), (117, False, True)), ((120, False, True),) * 3,
                      ((1, True, False), (120, False, True), (97, True, False)),
                      ((120, True, False), (60, False, True), (90, False, False)),
                      ((113, False, True), (2, False, True), (120, False, False))):
            base = sum(value for value, odd, _ in coins if odd)
            for number in (base, base + 240 * draw.number(10 ** 11), 31):
                self.check(coins, number)

    def test_the_greatest_numbers(self):
        for coins in some_coins(513, 20, 120):
            for number in (GREAT, -GREAT, GREAT - 1, 10 * GREAT + 1, 0, 1):
                if not can_pay(coins, number):
                    self.assertIs(is_bar(coins, number, bar(coins, number)), True)
                    continue
                numbers = paying(coins, number)
                self.assertEqual(sum(coin[0] * many for coin, many in zip(coins, numbers)), number)
                # No less than if all were paid by the greatest value, at most so many more as lesser ones are tried.
                most = max([coin[0] for coin in coins], default=1)
                self.assertTrue(abs(number) // most <= least_cost(coins, number) <= abs(number) // most + 16 * most)

    def test_beyond_120(self):
        self.check(((200, False, True), (171, True, False)), GREAT + 171)
        self.assertEqual(least_cost(((1000, False, False),), 10 ** 20), 10 ** 17)


class Edges(unittest.TestCase):
    def test_no_coin(self):
        self.assertIs(can_pay((), 0), True)
        self.assertEqual((paying((), 0), least_cost((), 0), cost_of((), ())), ((), 0, 0))
        self.assertIs(is_paying((), 0, ()), True)
        self.assertIs(is_least_paying((), 0, ()), True)
        for number in (1, -1, 2, 5, -6, GREAT):
            self.assertIs(can_pay((), number), False)
            self.assertIs(is_paying((), number, ()), False)
            self.assertIs(is_least_paying((), number, ()), False)
            self.assertIs(is_bar((), number, bar((), number)), True)
            self.assertNotEqual(number % bar((), number), 0)
            with self.assertRaises(CanNot):
                paying((), number)
        with self.assertRaises(CanNot):
            bar((), 0)
        self.assertIs(is_bar((), 0, 7), False)

    def test_one_coin(self):
        for value, odd, must in itertools.product((1, 2, 5), (True, False), (True, False)):
            coins = ((value, odd, must),)
            for many in range(-6, 7):
                self.assertIs(can_pay(coins, value * many), (many % 2 == 1) == odd)
                if (many % 2 == 1) == odd:
                    self.assertEqual(paying(coins, value * many), (many,))
                    self.assertEqual(least_cost(coins, value * many), 2 if many == 0 and must else abs(many))

    def test_nothing_paid(self):
        for musts in itertools.product((True, False), repeat=3):
            coins = tuple((value, False, must) for value, must in zip((3, 5, 8), musts))
            self.assertEqual(least_cost(coins, 0), 2 * sum(musts))
            self.assertEqual(cost_of(coins, (0, 0, 0)), 2 * sum(musts))
        # Nothing is paid by a PAYING of one odd and one odd, too.
        self.assertEqual(least_cost(((4, True, True), (4, True, False)), 0), 2)
        self.assertEqual(least_cost(((3, True, True), (1, True, False)), 0), 4)

    def test_must_changes_costs_alone(self):
        draw = Draw(521)
        for _ in range(60):
            coins = drawn_coins(draw, 3, 9)
            number = draw.number(60)
            without = tuple((value, odd, False) for value, odd, _ in coins)
            at_odd = tuple((value, odd, odd) for value, odd, _ in coins)
            self.assertEqual(can_pay(coins, number), can_pay(without, number))
            if can_pay(coins, number):
                self.assertEqual(least_cost(at_odd, number), least_cost(without, number))
                self.assertGreaterEqual(least_cost(coins, number), least_cost(without, number))
                self.assertIs(is_paying(without, number, paying(coins, number)), True)

    def test_what_is_no_paying(self):
        self.assertIs(is_paying(TWO, 1, (2, -1)), True)
        for thing in ([2, -1], (2, True), (2,), (2, -1, 0), (), None, True, 1, "2", (2, None), (2, "-1"), ((2, -1),),
                      (2, (-1,)), (-3, 2), (-1, 2), (7, -4)):
            self.assertIs(is_paying(TWO, 1, thing), False, thing)
            self.assertIs(is_least_paying(TWO, 1, thing), False, thing)
        # True is no number, though it is odd.
        self.assertIs(is_paying(((1, True, False),), 1, (True,)), False)
        self.assertIs(is_paying(((1, True, False),), 1, (1,)), True)
        self.assertIs(is_paying(((1, False, False),), 0, (False,)), False)
        # Another PAYING, of a greater cost.
        self.assertIs(is_paying(TWO, 1, (12, -7)), True)
        self.assertIs(is_least_paying(TWO, 1, (12, -7)), False)

    def test_several_of_least_cost(self):
        coins = ((3, False, False), (3, False, False))
        for numbers in ((2, 0), (0, 2)):
            self.assertIs(is_least_paying(coins, 6, numbers), True)
        self.assertIs(is_least_paying(coins, 6, (4, -2)), False)
        self.assertEqual(paying(coins, 6), paying([list(own) for own in coins], 6))

    def test_what_is_no_bar(self):
        for thing in (1, 0, -1, -2, True, False, None, "2", (2,), [2], (), 3, 4, 5, 10 ** 40):
            self.assertIs(is_bar(TWO, 10, thing), False, thing)
        self.assertIs(is_bar(TWO, 10, 2), True)
        # It has to divide twice the values, not the values.
        coins = ((4, False, False), (6, False, False))
        self.assertEqual([own for own in range(20) if is_bar(coins, 2, own)], [4])
        self.assertEqual([own for own in range(20) if is_bar(coins, 1, own)], [2, 4])
        self.assertEqual([own for own in range(20) if is_bar(coins, 4, own)], [])

    def test_wrong_payings_in_cost_of(self):
        for numbers in ((1, 1), (2, 2), (2,), (), (2, 1, 1), (2, True), None, True, "21", (2, None), ((2, 1),), [2, 2]):
            with self.assertRaises(Unfit):
                cost_of(TWO, numbers)
        self.assertEqual((cost_of(TWO, [2, -1]), cost_of(TWO, (-4, 3))), (3, 7))
        self.assertEqual(len(numbers_of(TWO[1], 3)), 4)


if __name__ == "__main__":
    unittest.main()
