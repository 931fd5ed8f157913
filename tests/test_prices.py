"""[21]: PRICES, beside a search of rows by price, step by step."""

import heapq
import itertools
import unittest

from movedchest.counts import counts_between, stand_by
from movedchest.errors import CanNot, NoLink, TooMany, Unfit
from movedchest.fewest import fewest_tips
from movedchest.links import free_stretches
from movedchest.prices import cheap_and_few, cheap_plan, cheapest, dearer, is_cheap_plan, left_links, price_of
from tests.drawn import ALL_FRONTS, ALL_SHAPES, ALL_TIPS, GREAT, HOME, Draw
from tests.search import stepped, tips_within, walked
from tests.tipping import RING, link_joining, stretches_told

ONES, NONE = (1,) * 6, (0,) * 6
EAST, NORTH, WEST, SOUTH = ALL_TIPS
START = HOME
FAR = ((0, 1, 2), (0, 2, 2), (0, 0, 0), (1, -1, -1))
# PRICES of 0 alone, all alike, each unlike, and with some 0.
PRICES = [NONE, ONES, (3,) * 6, (5, 1, 1, 1, 1, 1), (0, 0, 1, 7, 7, 7), (1, 2, 3, 4, 5, 6), (4, 0, 4, 0, 4, 0),
          (0, 9, 0, 0, 9, 0), (7, 0, 0, 0, 0, 0), (2, 1, 2, 2, 1, 2)]
MOST = 10


def walked_price(stand, row, prices):
    """The price of a ROW of tips, SHAPE by SHAPE."""
    price = 0
    for move in row:
        there = stepped(stand, move)
        price += prices[link_joining(stand[0], there[0])]
        stand = there
    return price


def cheap_within(stand, prices, most):
    """For each STAND that at most so many tips come to: the least pair (price, tips)."""
    found, queue = {}, [(0, 0, stand)]
    while queue:
        price, tips, here = heapq.heappop(queue)
        if here in found:
            continue
        found[here] = price, tips
        for move in ALL_TIPS if tips < most else ():
            there = stepped(here, move)
            if there not in found:
                heapq.heappush(queue, (price + prices[link_joining(here[0], there[0])], tips + 1, there))
    return found


def told_by_stretches(stand, goal, prices):
    """The least pair (price, tips) and the least set of LINKS left at it, over all free stretches."""
    counts = counts_between(stand, goal)
    best = []
    for left in stretches_told(stand[0], goal[0], counts):
        often = [abs(own) or (0 if link in left else 2) for link, own in enumerate(counts)]
        best.append((sum(a * b for a, b in zip(often, prices)), sum(often), left))
    return min(best)


def drawn_goals(draw, many, most=9):
    """Pairs (stand, goal) of which tips lead from one to the other, some far, some with COUNTS of 0."""
    for number in range(many):
        stand = draw.stand(GREAT if number % 3 == 0 else 9)
        there = walked(stand, draw.tips(draw.chance.randint(0, most)))
        counts = counts_between(stand, there)
        more = tuple(own + 2 * draw.number(draw.chance.choice((0, 0, 1, GREAT))) for own in counts)
        yield stand, stand_by(stand, there[0], more)


class PriceOf(unittest.TestCase):
    def test_walked(self):
        draw = Draw(901)
        for stand in draw.stands(60):
            prices = draw.chance.choice(PRICES)
            row = draw.tips(draw.chance.randint(0, 30))
            self.assertEqual(price_of(stand, row, prices), walked_price(stand, row, prices))
            self.assertEqual(price_of(stand, list(map(list, row)), list(prices)), walked_price(stand, row, prices))

    def test_no_moves_and_turns(self):
        for prices in PRICES:
            self.assertEqual(price_of(START, (), prices), 0)
            for row in ((("turn", 0, 1),), (EAST, ("turn", 2, -1)), (("turn", 1, 1), EAST, WEST)):
                with self.assertRaises(CanNot):
                    price_of(START, row, prices)

    def test_each_link(self):
        told = (1, 10, 100, 1000, 10000, 100000)
        self.assertEqual(price_of(START, (EAST, NORTH) * 3, told), 111111)
        for link in range(6):
            for way in ALL_TIPS:
                stand = (RING[link],) + START[1:]
                there = stepped(stand, way)
                self.assertEqual(price_of(stand, (way,), told), told[link_joining(stand[0], there[0])])

    def test_at_the_bounds(self):
        self.assertEqual(price_of(START, (EAST,) * 2000, (10 ** 6,) * 6), 2000 * 10 ** 6)

    def test_wrong_inputs(self):
        for args in ((START[:3], (), ONES), (START, ("tip", 0), ONES), (START, (), ONES[:5]), (START, (), ONES + (1,)),
                     (START, (), (1, 1, 1, 1, 1, -1)), (START, (), (1, 1, 1, 1, 1, True)), (START, (), None),
                     (START, (), "111111"), (None, (), ONES), (START, (("tip", 4),), ONES),
                     (START, (("turn", 0, 1),), (1, 1, 1)), (START, (), ((1, 1, 1, 1, 1, 1),))):
            with self.assertRaises(Unfit):
                price_of(*args)


class BesideSearch(unittest.TestCase):
    def check(self, stand, prices, goals):
        found = cheap_within(stand, prices, MOST)
        for goal in goals:
            told = cheap_and_few(stand, goal, prices)
            self.assertEqual(told[0], cheapest(stand, goal, prices))
            if told[1] <= MOST:
                self.assertEqual(told, found[goal])
            else:
                self.assertGreaterEqual(found.get(goal, told), told)
            self.assertEqual(cheap_and_few(goal, stand, prices), told)
            row = cheap_plan(stand, goal, prices)
            self.assertEqual((walked_price(stand, row, prices), len(row)), told)
            self.assertEqual(walked(stand, row), goal)
            self.assertTrue(all(move in ALL_TIPS for move in row))
            self.assertIs(is_cheap_plan(stand, goal, prices, row), True)
            self.assertIs(is_cheap_plan(stand, goal, prices, list(row)), False)

    def test_home(self):
        goals = sorted(tips_within(HOME, 6))
        for number, prices in enumerate(PRICES):
            self.check(HOME, prices, Draw(910 + number).chance.sample(goals, 60) + [HOME, FAR])

    def test_each_shape(self):
        draw = Draw(920)
        for shape in ALL_SHAPES:
            stand = (shape,) + draw.stand(draw.chance.choice((9, GREAT)))[1:]
            goals = draw.chance.sample(sorted(tips_within(stand, 6)), 40)
            self.check(stand, tuple(draw.chance.randint(0, 5) for _ in range(6)), goals)

    def test_there_already(self):
        for prices in PRICES:
            for shape in ALL_SHAPES:
                stand = (shape,) + HOME[1:]
                self.assertEqual((cheapest(stand, stand, prices), cheap_and_few(stand, stand, prices)), (0, (0, 0)))
                self.assertEqual((cheap_plan(stand, stand, prices), left_links(stand, stand, prices)),
                                 ((), (0, 1, 2, 3, 4, 5)))
                self.assertIs(is_cheap_plan(stand, stand, prices, ()), True)
                self.assertIs(is_cheap_plan(stand, stand, prices, (EAST, WEST)), False)


class Told(unittest.TestCase):
    def test_beside_all_free_stretches(self):
        draw = Draw(931)
        left = set()
        for stand, goal in drawn_goals(draw, 150):
            prices = draw.chance.choice(PRICES + [tuple(draw.chance.randint(0, 3) for _ in range(6))] * 10)
            price, tips, links = told_by_stretches(stand, goal, prices)
            self.assertEqual(cheap_and_few(stand, goal, prices), (price, tips))
            self.assertEqual(left_links(stand, goal, prices), links)
            left.add(len(links))
        self.assertTrue({0, 1, 2, 3, 4} <= left, left)

    def test_several_of_most_prices(self):
        # Twice over LINKS 2 and 5: LINKS 0 and 1 are left, or 3 and 4.
        both = ((0, 1, 2), (0, 2, 2), (0, 2, 2), (1, 1, 1))
        self.assertEqual(left_links(START, both, ONES), (0, 1))
        self.assertEqual(left_links(START, both, NONE), (0, 1))
        self.assertEqual(left_links(START, both, (1, 1, 0, 1, 1, 0)), (0, 1))
        self.assertEqual(left_links(START, both, (1, 1, 0, 2, 1, 0)), (3, 4))
        self.assertEqual(left_links(START, both, (0, 2, 9, 1, 1, 9)), (0, 1))
        # As many PRICES: the one of more LINKS, then the least as a set.
        self.assertEqual(left_links(START, FAR, (3, 0, 1, 1, 1, 1)), (3, 4, 5))
        self.assertEqual(left_links(START, FAR, (0, 0, 1, 0, 0, 0)), (3, 4, 5))
        self.assertEqual(left_links(START, FAR, (2, 2, 1, 1, 1, 1)), (0, 1))

    def test_how_many_free(self):
        draw = Draw(932)
        for many in range(7):
            # Of COUNTS each 0 or even: many of them 0.
            for prices in PRICES:
                counts = [0] * many + [2 * draw.chance.choice((1, -1, 3)) for _ in range(6 - many)]
                draw.chance.shuffle(counts)
                goal = stand_by(START, START[0], tuple(counts))
                price, tips, links = told_by_stretches(START, goal, prices)
                self.assertEqual(cheap_and_few(START, goal, prices), (price, tips))
                self.assertEqual(left_links(START, goal, prices), links)
                if many == 0:
                    self.assertEqual(links, ())

    def test_with_prices_1_the_fewest_tips(self):
        for stand, goal in drawn_goals(Draw(933), 60):
            tips = fewest_tips(stand, goal)
            self.assertEqual(cheap_and_few(stand, goal, ONES), (tips, tips))
            self.assertEqual(cheap_and_few(stand, goal, NONE), (0, tips))

    def test_many_times_as_great(self):
        draw = Draw(934)
        for stand, goal in drawn_goals(draw, 40):
            prices = draw.chance.choice(PRICES)
            price, tips = cheap_and_few(stand, goal, prices)
            for times in (2, 7, 10 ** 5):
                great = tuple(times * own for own in prices)
                self.assertEqual(cheap_and_few(stand, goal, great), (times * price, tips))
                self.assertEqual(left_links(stand, goal, great), left_links(stand, goal, prices))

    def test_never_falls_and_fronts(self):
        draw = Draw(935)
        for stand, goal in drawn_goals(draw, 40):
            prices = draw.chance.choice(PRICES)
            grown = tuple(own + draw.chance.randint(0, 3) for own in prices)
            self.assertLessEqual(cheapest(stand, goal, prices), cheapest(stand, goal, grown))
            self.assertEqual(cheapest(goal, stand, prices), cheapest(stand, goal, prices))

    def test_great_numbers(self):
        great = stand_by(START, START[0], (2 * GREAT, 0, 0, -2 * GREAT, 0, 0))
        self.assertEqual(cheap_and_few(START, great, (10 ** 6, 1, 2, 10 ** 6, 3, 4)), (4 * GREAT * 10 ** 6 + 6, 4 * GREAT + 4))
        self.assertEqual(left_links(START, great, (10 ** 6, 1, 2, 10 ** 6, 3, 4)), (4, 5))


class Dearer(unittest.TestCase):
    def test_beside_the_one_price_grown(self):
        draw = Draw(941)
        seen = set()
        for stand, goal in drawn_goals(draw, 80, 6):
            prices = draw.chance.choice(PRICES + [tuple(draw.chance.randint(0, 3) for _ in range(6))] * 5)
            counts = counts_between(stand, goal)
            price, tips, _ = told_by_stretches(stand, goal, prices)
            for link in range(6):
                grown = prices[:link] + (prices[link] + 1,) + prices[link + 1:]
                more = dearer(stand, goal, prices, link)
                self.assertEqual(more, told_by_stretches(stand, goal, grown)[0] - price)
                seen.add(min(more, 3))
                # By as much as any cheap ROW goes over it, at most.
                for left in stretches_told(stand[0], goal[0], counts):
                    often = [abs(own) or (0 if at in left else 2) for at, own in enumerate(counts)]
                    if (sum(a * b for a, b in zip(often, prices)), sum(often)) == (price, tips):
                        self.assertLessEqual(more, often[link])
        self.assertEqual(seen, {0, 1, 2, 3})

    def test_a_link_of_another_number(self):
        for link in (6, -1, 10 ** 6, -6):
            with self.assertRaises(NoLink) as caught:
                dearer(START, FAR, ONES, link)
            self.assertEqual(caught.exception.link, link)
            # Ahead of CanNot().
            with self.assertRaises(NoLink):
                dearer(START, FAR[:3] + ((1, 1, 1),), ONES, link)
        with self.assertRaises(CanNot):
            dearer(START, FAR[:3] + ((1, 1, 1),), ONES, 5)
        for link in (None, True, "0", (0,), 1.0):
            with self.assertRaises(Unfit):
                dearer(START, FAR[:3] + ((1, 1, 1),), ONES, link)
        with self.assertRaises(Unfit):
            dearer(START, FAR, ONES[:5], 6)


class Plans(unittest.TestCase):
    def test_is_cheap_plan_beside_all_rows(self):
        for prices in (NONE, (0, 1, 0, 0, 0, 0), (5, 1, 1, 1, 1, 1)):
            near = cheap_within(HOME, prices, 8)
            for row in ((), (EAST, NORTH), (EAST, EAST), (NORTH, WEST, SOUTH)):
                goal = walked(HOME, row)
                found = near[goal]
                for many in range(5):
                    for own in itertools.product(ALL_TIPS, repeat=many):
                        comes = walked(HOME, own) == goal
                        told = comes and (walked_price(HOME, own, prices), many) == found
                        self.assertIs(is_cheap_plan(HOME, goal, prices, own), told)

    def test_what_is_no_cheap_plan(self):
        back = (EAST, NORTH, EAST, EAST, SOUTH, WEST)
        self.assertIs(is_cheap_plan(START, FAR, ONES, back), True)
        for thing in (list(back), (list(EAST),) + back[1:], (("tip", False),) + back[1:], back[:5], back + (EAST, WEST),
                      (), None, True, "tip", EAST, (back,), back[:5] + (None,), back[:5] + (("turn", 0, 1),),
                      (NORTH,) + back[1:]):
            self.assertIs(is_cheap_plan(START, FAR, ONES, thing), False, thing)
        # As few tips, of more price; of like price with more tips.
        self.assertIs(is_cheap_plan(START, FAR, (5, 1, 1, 1, 1, 1), back), False)
        self.assertIs(is_cheap_plan(START, FAR, NONE, back), True)
        both, prices = ((0, 1, 2), (0, 2, 2), (0, 2, 2), (1, 1, 1)), (1, 1, 0, 2, 1, 0)
        by_left = [cheap_plan(START, both, own) for own in (prices, ONES)]
        self.assertEqual([walked(START, row) for row in by_left], [both, both])
        self.assertEqual([(len(row), walked_price(START, row, prices)) for row in by_left], [(8, 4), (8, 6)])
        self.assertEqual([is_cheap_plan(START, both, prices, row) for row in by_left], [True, False])
        self.assertIs(is_cheap_plan(START, FAR, NONE, back[:2] + (EAST, WEST) + back[2:]), False)

    def test_up_to_2000_tips(self):
        for many, spare in ((2000, 0), (1996, 4)):
            goal = stand_by(START, START[0], (many, 0, 0, 0, 0, 0) if not spare else (0, 0, many, 0, 0, 0))
            row = cheap_plan(START, goal, ONES)
            self.assertEqual((len(row), walked(START, row)), (2000, goal))
            self.assertIs(is_cheap_plan(START, goal, ONES, row), True)

    def test_more_than_2000_tips(self):
        near = stand_by(START, START[0], (0, 0, 1996, 0, 0, 0))
        self.assertEqual(len(cheap_plan(START, near, ONES)), 2000)
        # Cheap ROWS of 2,002 tips, by LINKS 3, 4, 5.
        with self.assertRaises(TooMany):
            cheap_plan(START, near, (9, 1, 1, 1, 1, 1))
        self.assertEqual(cheap_and_few(START, near, (9, 1, 1, 1, 1, 1)), (2002, 2002))
        far = stand_by(START, START[0], (2002, 0, 0, 0, 0, 0))
        for prices in (ONES, NONE):
            with self.assertRaises(TooMany):
                cheap_plan(START, far, prices)
            self.assertIs(is_cheap_plan(START, far, prices, (EAST,) * 2002), True)

    def test_where_no_row_leads(self):
        for goal in (FAR[:3] + ((1, 1, 1),), (START[0], (1, 0, 0)) + START[2:], (START[0], (1, 0, 1)) + START[2:]):
            for function in (cheapest, cheap_and_few, left_links, cheap_plan):
                with self.assertRaises(CanNot):
                    function(START, goal, ONES)
                with self.assertRaises(Unfit):
                    function(START, goal, ONES[:5])
            for thing in ((), None, (EAST,)):
                with self.assertRaises(CanNot):
                    is_cheap_plan(START, goal, ONES, thing)

    def test_wrong_inputs(self):
        right = START, FAR, ONES
        wrong = (None, True, "111111", (), (1,) * 5, (1,) * 7, ((1, 1, 1, 1, 1, 1),), (1, 1, 1, 1, 1, True),
                 (1, 1, 1, 1, 1, -1))
        for function in (cheapest, cheap_and_few, left_links, cheap_plan):
            for at, value in itertools.product(range(3), wrong):
                with self.assertRaises(Unfit):
                    function(*right[:at], value, *right[at + 1:])
        for value in wrong:
            with self.assertRaises(Unfit):
                is_cheap_plan(START, FAR, value, ())


class Stretches(unittest.TestCase):
    def test_the_longest_will_do(self):
        """What stretches_told lists are the parts of free stretches, and ()."""
        draw = Draw(951)
        for stand, goal in drawn_goals(draw, 40):
            counts = counts_between(stand, goal)
            whole = free_stretches(stand[0], goal[0], counts)
            parts = {()} | {tuple(sorted(own[a:b])) for own in whole for a in range(6) for b in range(a + 1, len(own) + 1)}
            self.assertEqual(stretches_told(stand[0], goal[0], counts), parts)

    def test_fronts_do_not_matter(self):
        told = {cheap_and_few((START[0],) + START[1:3] + (own,), walked(START[:3] + (own,), (EAST, NORTH, NORTH)), PRICES[5])
                for own in ALL_FRONTS}
        self.assertEqual(len(told), 1)


if __name__ == "__main__":
    unittest.main()
