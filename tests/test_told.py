"""[18]: CHESTS with told sides, beside searches of all rows of few tips."""

import itertools
import unittest

from movedchest.barred import can_tip_to
from movedchest.counts import counts_between
from movedchest.errors import CanNot, TooMany, Unfit
from movedchest.fewest import fewest_tips
from movedchest.told import (
    best_counts, best_goal, can_tip_there, fewest_to, is_tip_row, is_why_never, link_coins, tip_row, way_left,
    why_never,
)
from tests.drawn import ALL_FRONTS, ALL_SHAPES, ALL_TIPS, GREAT, HOME, Draw
from tests.paying import least_by_trying
from tests.search import tips_within, walked
from tests.sides import LINK_SIDES, arcs_told, found_by, middle_told
from tests.tipping import stretches_told

LINK_SETS = [own for many in range(7) for own in itertools.combinations(range(6), many)]
EAST, NORTH, WEST, SOUTH = ALL_TIPS
# All sides alike, two alike, all unlike, with a divisor in common, and without any.
SIDES = [(1, 1, 1), (3, 3, 3), (2, 2, 5), (1, 4, 1), (2, 3, 5), (2, 4, 6), (1, 3, 5), (7, 2, 4)]
EVEN = (2, 4, 6)


def found_there(chest, stand, most):
    """For each pair (SHAPE, MIDDLE) that at most so many tips come to: how many at the fewest."""
    return found_by(chest, tips_within(stand, most))


def coins_told(chest, arc, axis):
    """The COINS of arc and axis: even LINKS for x, odd ones for y."""
    return tuple((sum(chest) - chest[LINK_SIDES[link]], link in arc, False) for link in range(axis, 6, 2))


def is_bar_told(coins, number, thing):
    left = number - sum(value for value, odd, _ in coins if odd)
    return thing >= 2 and all(2 * value % thing == 0 for value, _, _ in coins) and left % thing != 0


def fewest_by_runs(chest, stand, shape, middle):
    """As [1] (d) tells it: over both arcs and all runs of LINKS, with costs by trying; None if none come there."""
    here = middle_told(chest, stand)
    best = None
    for arc in arcs_told(stand[0], shape):
        runs = stretches_told(stand[0], shape, [int(link in arc) for link in range(6)])
        for run in runs:
            costs = []
            for axis in (0, 1):
                links = [link for link in range(axis, 6, 2) if link not in run]
                coins = tuple((sum(chest) - chest[LINK_SIDES[link]], link in arc, True) for link in links)
                costs.append(least_by_trying(coins, middle[axis] - here[axis]))
            if None not in costs and (best is None or sum(costs) < best):
                best = sum(costs)
    return best


class Coins(unittest.TestCase):
    def test_link_coins(self):
        for chest in SIDES:
            for arc in LINK_SETS:
                for axis in (0, 1):
                    self.assertEqual(link_coins(chest, arc, axis), coins_told(chest, arc, axis))

    def test_wrong_arcs_and_axes(self):
        for arc in ((6,), (-1,), (0, 0), (1, 0), (True,), (None,), ("0",), ((0,),), None, 0, "0", True,
                    (0, 1, 2, 3, 4, 5, 6)):
            with self.assertRaises(Unfit):
                link_coins((2, 3, 5), arc, 0)
        for axis in (2, -1, True, False, None, "0", (0,)):
            with self.assertRaises(Unfit):
                link_coins((2, 3, 5), (0,), axis)

    def test_way_left(self):
        draw = Draw(601)
        for stand in draw.stands(40):
            for chest in SIDES:
                middle = draw.number(GREAT), draw.number(50)
                here = middle_told(chest, stand)
                self.assertEqual(way_left(chest, stand, middle), (middle[0] - here[0], middle[1] - here[1]))


class BesideSearch(unittest.TestCase):
    def check(self, chest, stand, most, many):
        """What few tips come to, and MIDDLES near that none or more come to."""
        draw = Draw(611)
        found = found_there(chest, stand, most)
        here = middle_told(chest, stand)
        tried = draw.chance.sample(sorted(found), min(many, len(found)))
        for _ in range(many):
            tried.append((draw.chance.choice(ALL_SHAPES), (here[0] + draw.number(9), here[1] + draw.number(9))))
        seen = {True: 0, False: 0}
        for shape, middle in tried:
            can = can_tip_there(chest, stand, shape, middle)
            seen[can] += 1
            if not can:
                self.assertNotIn((shape, middle), found)
                with self.assertRaises(CanNot):
                    fewest_to(chest, stand, shape, middle)
                continue
            tips = fewest_to(chest, stand, shape, middle)
            self.assertEqual(min(tips, most + 1), found.get((shape, middle), most + 1))
        return seen

    def test_home(self):
        for chest in SIDES:
            self.check(chest, HOME, 9, 120)

    def test_each_shape(self):
        draw = Draw(612)
        for shape in ALL_SHAPES:
            _, xs, ys, fronts = draw.stand(draw.chance.choice((9, GREAT)))
            seen = self.check(draw.chance.choice(SIDES), (shape, xs, ys, fronts), 8, 40)
            self.assertGreater(seen[True], 20)

    def test_all_of_a_cube(self):
        """Each MIDDLE near a cube of side 1, with each SHAPE."""
        found = found_there((1, 1, 1), HOME, 9)
        for shape in ALL_SHAPES:
            for middle in itertools.product(range(-4, 5), repeat=2):
                self.assertEqual(can_tip_there((1, 1, 1), HOME, shape, middle), (shape, middle) in found)
                if (shape, middle) in found:
                    self.assertEqual(fewest_to((1, 1, 1), HOME, shape, middle), found[shape, middle])

    def test_by_runs_and_trying(self):
        draw = Draw(613)
        for number in range(36):
            chest = draw.chance.choice([(1, 2, 3), (2, 2, 1), (4, 1, 2), (3, 3, 3), (2, 4, 2), (1, 5, 2)])
            stand = draw.stand(5)
            goal = walked(stand, draw.tips(draw.chance.randint(0, 9)))
            middle = middle_told(chest, goal)
            if number % 3 == 1:
                middle = draw.number(200), draw.number(GREAT)
            if number % 3 == 2:
                spread = 2 * (chest[0] + chest[1]) * (chest[1] + chest[2]) * (chest[0] + chest[2])
                middle = middle[0] + spread * draw.number(10 ** 9), middle[1] + spread * draw.number(2)
            told = fewest_by_runs(chest, stand, goal[0], middle)
            self.assertIs(can_tip_there(chest, stand, goal[0], middle), told is not None)
            if told is not None:
                self.assertEqual(fewest_to(chest, stand, goal[0], middle), told)

    def test_fronts_do_not_matter(self):
        draw = Draw(614)
        for stand in draw.stands(8):
            goal = walked(stand, draw.tips(6))
            middle = middle_told((2, 3, 5), goal)
            told = {fewest_to((2, 3, 5), stand[:3] + (fronts,), goal[0], middle) for fronts in ALL_FRONTS}
            self.assertEqual(len(told), 1)
            self.assertLessEqual(max(told), fewest_tips(stand, goal))


class Best(unittest.TestCase):
    def pairs(self, seed, many):
        """Tuples (chest, stand, shape, middle) that tips come to."""
        draw = Draw(seed)
        for stand in draw.stands(many):
            chest = draw.chance.choice(SIDES + [(60, 59, 58), (60, 60, 1)])
            goal = walked(stand, draw.tips(draw.chance.randint(0, 30)))
            yield chest, stand, goal[0], middle_told(chest, goal)

    def test_goal_counts_and_row(self):
        for chest, stand, shape, middle in self.pairs(621, 60):
            tips = fewest_to(chest, stand, shape, middle)
            goal = best_goal(chest, stand, shape, middle)
            self.assertEqual((goal[0], middle_told(chest, goal)), (shape, middle))
            self.assertIs(can_tip_to(stand, goal), True)
            self.assertEqual(fewest_tips(stand, goal), tips)
            self.assertEqual(counts_between(stand, goal), best_counts(chest, stand, shape, middle))
            row = tip_row(chest, stand, shape, middle)
            there = walked(stand, row)
            self.assertEqual((len(row), there[0], middle_told(chest, there)), (tips, shape, middle))
            self.assertIs(is_tip_row(chest, stand, shape, middle, row), True)

    def test_payings_are_counts(self):
        """Odd just at one arc, and each axis's way."""
        for chest, stand, shape, middle in self.pairs(622, 40):
            counts = best_counts(chest, stand, shape, middle)
            odd = tuple(link for link in range(6) if counts[link] % 2)
            self.assertIn(odd, arcs_told(stand[0], shape))
            left = way_left(chest, stand, middle)
            for axis in (0, 1):
                values = [coin[0] for coin in coins_told(chest, odd, axis)]
                self.assertEqual(sum(a * b for a, b in zip(values, counts[axis::2])), left[axis])

    def test_there_already(self):
        draw = Draw(623)
        for chest in SIDES + [(60, 60, 60)]:
            for stand in draw.stands(6):
                middle = middle_told(chest, stand)
                self.assertEqual(fewest_to(chest, stand, stand[0], middle), 0)
                self.assertEqual(best_counts(chest, stand, stand[0], middle), (0,) * 6)
                self.assertEqual((best_goal(chest, stand, stand[0], middle), tip_row(chest, stand, stand[0], middle)),
                                 (stand, ()))
                self.assertIs(is_tip_row(chest, stand, stand[0], middle, ()), True)
                self.assertIs(is_tip_row(chest, stand, stand[0], middle, []), False)
                self.assertIs(is_tip_row(chest, stand, stand[0], middle, (EAST, WEST)), False)

    def test_is_tip_row_beside_all_rows(self):
        for chest, shape, middle in (((2, 3, 5), (0, 1, 2), (14, 0)), ((1, 1, 1), (2, 0, 1), (2, 2)),
                                     ((1, 1, 1), (0, 1, 2), (2, 2)), ((1, 3, 5), (1, 2, 0), (-4, -8)),
                                     ((2, 4, 6), (0, 1, 2), (0, 4)), ((2, 3, 5), (0, 1, 2), (1, 0))):
            found = found_there(chest, HOME, 5)
            for many in range(6):
                for row in itertools.product(ALL_TIPS, repeat=many):
                    there = walked(HOME, row)
                    comes = (there[0], middle_told(chest, there)) == (shape, middle)
                    told = comes and found[shape, middle] == many
                    self.assertIs(is_tip_row(chest, HOME, shape, middle, row), told)

    def test_what_is_no_tip_row(self):
        here = (2, 3, 5), HOME, (0, 1, 2), (14, 0)
        self.assertIs(is_tip_row(*here, (EAST, EAST)), True)
        for thing in ([EAST, EAST], (["tip", 0], EAST), (("tip", False), EAST), (EAST, EAST, EAST, WEST), (EAST,), (),
                      None, True, "tip", ("tip", 0), (EAST, None), ((EAST, EAST),), (WEST, WEST),
                      (EAST, EAST, ("turn", 0, 1), ("turn", 1, -1))):
            self.assertIs(is_tip_row(*here, thing), False, thing)
        # Nowhere to be come to: none.
        self.assertIs(is_tip_row(EVEN, HOME, (0, 1, 2), (3, 0), ()), False)
        with self.assertRaises(Unfit):
            is_tip_row(EVEN, HOME, (0, 1, 2), (3, 0, 0), ())
        # A turn comes to this MIDDLE, too, also with as many MOVES as the fewest tips; tips alone count.
        left, aside = ("turn", 2, 1), ((2, 3, 5), HOME, (1, 0, 2), (5, 1))
        self.assertEqual(fewest_to(*aside), 3)
        self.assertIs(is_tip_row(*aside, (NORTH, EAST, SOUTH)), True)
        for row in ((left,), (left, EAST, WEST), (NORTH, SOUTH, left)):
            there = walked(HOME, row)
            self.assertEqual((there[0], middle_told((2, 3, 5), there)), aside[2:])
            self.assertIs(is_tip_row(*aside, row), False)

    def test_up_to_2000(self):
        for many in (1999, 2000):
            goal = walked(HOME, (EAST,) * many)
            here = (2, 3, 2), HOME, goal[0], middle_told((2, 3, 2), goal)
            tips = fewest_to(*here)
            row = tip_row(*here)
            there = walked(HOME, row)
            self.assertEqual((len(row), there[0], middle_told(here[0], there)), (tips, here[2], here[3]))
        # Of a cube 2 for each tip: just 2,000, and 2,002.
        cube = (1, 1, 1)
        self.assertEqual(fewest_to(cube, HOME, (0, 1, 2), (4000, 0)), 2000)
        row = tip_row(cube, HOME, (0, 1, 2), (4000, 0))
        self.assertEqual((len(row), walked(HOME, row)[0], middle_told(cube, walked(HOME, row))),
                         (2000, (0, 1, 2), (4000, 0)))
        self.assertIs(is_tip_row(cube, HOME, (0, 1, 2), (4000, 0), row), True)
        self.assertEqual(fewest_to(cube, HOME, (0, 1, 2), (4004, 0)), 2002)
        for middle in ((4004, 0), (-3000, 1004), (10 ** 12, -10 ** 12)):
            with self.assertRaises(TooMany):
                tip_row(cube, HOME, (0, 1, 2), middle)
        # A thing is a ROW however long it is.
        self.assertIs(is_tip_row(cube, HOME, (0, 1, 2), (4004, 0), (EAST,) * 2002), True)
        with self.assertRaises(CanNot):
            tip_row(cube, HOME, (0, 1, 2), (4002, 0))

    def test_numbers_at_the_bounds(self):
        stand = (0, 1, 2), (-GREAT,) * 3, (GREAT,) * 3, (1, 1, 1)
        for chest in ((60, 59, 58), (60, 60, 60), (61, 1, 100)):
            here = middle_told(chest, stand)
            for middle in ((GREAT, -GREAT), (GREAT - 1, 17)):
                if can_tip_there(chest, stand, (0, 1, 2), middle):
                    goal = best_goal(chest, stand, (0, 1, 2), middle)
                    self.assertEqual(middle_told(chest, goal), middle)
                    tips = fewest_to(chest, stand, (0, 1, 2), middle)
                    self.assertEqual(fewest_tips(stand, goal), tips)
                    far = sum(abs(a - b) for a, b in zip(middle, here))
                    self.assertGreaterEqual(tips * (sum(chest) - min(chest)), far)
                else:
                    told = why_never(chest, stand, (0, 1, 2), middle)
                    self.assertIs(is_why_never(chest, stand, (0, 1, 2), middle, told), True)


class Never(unittest.TestCase):
    def test_just_where_no_row_comes(self):
        seen = {True: 0, False: 0}
        draw = Draw(631)
        for chest in SIDES:
            for _ in range(60):
                stand = draw.stand(6)
                shape, here = draw.chance.choice(ALL_SHAPES), middle_told(chest, stand)
                middle = here[0] + draw.number(12), here[1] + draw.number(12)
                can = can_tip_there(chest, stand, shape, middle)
                seen[can] += 1
                if can:
                    with self.assertRaises(CanNot):
                        why_never(chest, stand, shape, middle)
                    continue
                told = why_never(chest, stand, shape, middle)
                self.assertIs(is_why_never(chest, stand, shape, middle, told), True)
                left = way_left(chest, stand, middle)
                for arc, (axis, own) in zip(arcs_told(stand[0], shape), told):
                    self.assertTrue(is_bar_told(coins_told(chest, arc, axis), left[axis], own))
        self.assertTrue(min(seen.values()) > 50, seen)

    def test_is_why_never_beside_all_pairs(self):
        pairs = list(itertools.product((0, 1), range(-2, 13)))
        for chest, shape, middle in ((EVEN, (0, 1, 2), (3, 0)), (EVEN, (2, 0, 1), (2, 1)), (EVEN, (2, 1, 0), (2, 6)),
                                     ((1, 1, 1), (0, 1, 2), (2, 0)), ((2, 3, 5), (0, 1, 2), (14, 0)),
                                     ((1, 1, 1), (0, 1, 2), (2, 3))):
            arcs = arcs_told(HOME[0], shape)
            for own in itertools.product(pairs, repeat=2):
                told = all(is_bar_told(coins_told(chest, arc, axis), middle[axis], number)
                           for arc, (axis, number) in zip(arcs, own))
                self.assertIs(is_why_never(chest, HOME, shape, middle, own), told)

    def test_by_one_axis_and_by_both(self):
        """(3, 0) is barred along x alone, (0, 3) along y alone, (3, 3) by either."""
        for middle, axes in (((3, 0), (0,)), ((0, 3), (1,)), ((3, 3), (0, 1))):
            for own in itertools.product((0, 1), repeat=2):
                thing = tuple((axis, 4) for axis in own)
                self.assertIs(is_why_never(EVEN, HOME, (0, 1, 2), middle, thing), set(own) <= set(axes))

    def test_for_one_arc_and_for_both(self):
        """Barred for both arcs, if for one alone, rows come there."""
        one = 0
        for chest, shape, middle in itertools.product(((1, 3, 5), EVEN, (1, 1, 1)), ALL_SHAPES,
                                                      itertools.product(range(5), repeat=2)):
            barred = []
            for arc in arcs_told(HOME[0], shape):
                coins = [coins_told(chest, arc, axis) for axis in (0, 1)]
                barred.append(any(is_bar_told(coins[axis], middle[axis], own) for axis in (0, 1)
                                  for own in range(2, 25)))
            one += barred in ([True, False], [False, True])
            self.assertIs(can_tip_there(chest, HOME, shape, middle), not all(barred))
        self.assertGreater(one, 10)

    def test_what_is_none(self):
        here = EVEN, HOME, (0, 1, 2), (3, 0)
        self.assertIs(is_why_never(*here, ((0, 2), (0, 4))), True)
        for thing in ([(0, 2), (0, 4)], ([0, 2], (0, 4)), ((0, 2),), ((0, 2), (0, 4), (0, 2)), ((False, 2), (0, 4)),
                      ((0, 2), (False, 4)), ((0, 2), (1, 4)), ((2, 2), (0, 4)), ((-1, 2), (0, 4)),
                      ((0, 2, 2), (0, 4)), ((0,), (0, 4)), (0, 2), None, True, (), "02", ((0, True), (0, 4)),
                      ((0, 1), (0, 4)), ((0, -2), (0, 4)), ((0, None), (0, 4)), ((0, "2"), (0, 4)),
                      (((0, 2), (0, 4)),)):
            self.assertIs(is_why_never(*here, thing), False, thing)

    def test_errors(self):
        for function in (fewest_to, best_counts, best_goal, tip_row):
            with self.assertRaises(CanNot):
                function(EVEN, HOME, (0, 1, 2), (3, 0))
            with self.assertRaises(CanNot):
                function(EVEN, HOME, (0, 1, 2), (10 ** 12 + 1, 0))
            for args in (((2, 4, 0), HOME, (0, 1, 2), (3, 0)), (EVEN, HOME[:3], (0, 1, 2), (3, 0)),
                         (EVEN, HOME, (0, 1, 1), (3, 0)), (EVEN, HOME, (0, 1, 2), (3,)),
                         (EVEN, HOME, (0, 1, 2), (3, True)), (EVEN, HOME, (0, 1, 2), None)):
                with self.assertRaises(Unfit):
                    function(*args)


if __name__ == "__main__":
    unittest.main()
