"""[22]: cubes and bars, beside searches of what is seen of them, and far ones beside many more COUNTS."""

import itertools
import unittest

from movedchest.barred import can_tip_to
from movedchest.counts import stand_by
from movedchest.cubes import (
    bar_best, bar_fewest, bar_seen, blank_fewest, cube_best, cube_fewest, cube_seen, is_bar_best, is_cube_best,
)
from movedchest.errors import CanNot, Unfit
from movedchest.fewest import fewest_tips
from tests.drawn import ALL_FRONTS, ALL_SHAPES, ALL_TIPS, GREAT, HOME, Draw
from tests.search import all_within, stepped, tips_within, walked, with_sign_turned
from tests.sides import LINK_SIDES, arcs_told
from tests.tipping import stretches_told

EAST, NORTH, WEST, SOUTH = ALL_TIPS
SIDES = (0, 1, 2)


def as_cube(stand):
    """What is seen of a cube: the sums, the SHAPE and the FRONTS."""
    return sum(stand[1]), sum(stand[2]), stand[0], stand[3]


def cube_stepped(seen, move):
    """What is seen of a cube behind a tip, told by what was seen alone."""
    x, y, (i, j, k), fronts = seen
    if move == EAST:
        return x + 2, y, (k, j, i), with_sign_turned(fronts, i)
    if move == WEST:
        return x - 2, y, (k, j, i), with_sign_turned(fronts, k)
    if move == NORTH:
        return x, y + 2, (i, k, j), with_sign_turned(fronts, j)
    return x, y - 2, (i, k, j), with_sign_turned(fronts, k)


def as_bar(stand, side):
    """What is seen of a bar: where side lies, and xs and ys at it and of both others."""
    shape, xs, ys, _ = stand
    return shape.index(side), xs[side], sum(xs) - xs[side], ys[side], sum(ys) - ys[side]


def bar_stepped(seen, move):
    """What is seen of a bar behind a tip, told by what was seen alone."""
    place, x, x_others, y, y_others = seen
    step = 1 if move in (EAST, NORTH) else -1
    # Along x the places 0 and 2 are exchanged, along y 1 and 2: two sides at each of which is one more.
    turned = (0, 2) if move in (EAST, WEST) else (1, 2)
    own, others = (step, step) if place in turned else (0, 2 * step)
    there = sum(turned) - place if place in turned else place
    if move in (EAST, WEST):
        return there, x + own, x_others + others, y, y_others
    return there, x, x_others, y + own, y_others + others


def seen_within(seen, step, most):
    """For all that is seen behind at most so many tips: behind how many at the fewest."""
    return all_within(seen, ALL_TIPS, most, step)


def fewest_of_counts(shape, other, counts):
    """The fewest tips with these COUNTS, None if they do not lead from shape to other."""
    if tuple(link for link in range(6) if counts[link] % 2) not in arcs_told(shape, other):
        return None
    left = max(len(own) for own in stretches_told(shape, other, counts))
    return sum(map(abs, counts)) + 2 * (counts.count(0) - left)


def unlike(draw, stand):
    """A STAND with other xs and ys, of which the sums are one."""
    shape, xs, ys, fronts = stand
    own = []
    for numbers in (xs, ys):
        one, other = draw.number(9), draw.number(9)
        own.append((numbers[0] + one, numbers[1] + other, numbers[2] - one - other))
    return shape, own[0], own[1], fronts


class CubeSeen(unittest.TestCase):
    def test_sums_shape_and_fronts(self):
        draw = Draw(1001)
        seen = {True: 0, False: 0}
        for stand in draw.stands(120):
            x, y = sum(stand[1]), sum(stand[2])
            even = x % 2 == 0 and y % 2 == 0
            seen[even] += 1
            if even:
                self.assertEqual(cube_seen(stand), (x // 2, y // 2, stand[0], stand[3]))
                self.assertEqual(cube_seen(list(map(list, stand))), cube_seen(stand))
            else:
                with self.assertRaises(CanNot):
                    cube_seen(stand)
        self.assertGreater(min(seen.values()), 10)

    def test_each_sum_odd(self):
        for xs, ys in (((1, 0, 0), (0, 0, 0)), ((0, 0, 0), (0, 0, -1)), ((1, 1, 1), (1, 1, 1)), ((GREAT, 0, 1), (0, 0, 2))):
            with self.assertRaises(CanNot):
                cube_seen((HOME[0], xs, ys, HOME[3]))

    def test_wrong_inputs(self):
        for stand in (None, True, HOME[:3], HOME + (1,), "home", (HOME,), (HOME[0], (1, 0), (0, 0, 0), (1, 1, 1))):
            with self.assertRaises(Unfit):
                cube_seen(stand)


class Cubes(unittest.TestCase):
    def test_beside_a_search_of_what_is_seen(self):
        draw = Draw(1002)
        for shape in ALL_SHAPES:
            stand = (shape,) + draw.stand(draw.chance.choice((9, GREAT)))[1:]
            found = seen_within(as_cube(stand), cube_stepped, 12)
            for seen in draw.chance.sample(sorted(found), 25):
                x, y, there, fronts = seen
                one, other = draw.number(9), draw.number(9)
                goal = there, (one, other, x - one - other), (one, y - one, 0), fronts
                self.assertEqual(cube_fewest(stand, goal), found[seen])

    def test_all_near(self):
        """Each SHAPE with all FRONTS, near: come to, or CanNot(), also by 6 tips more than a blank one."""
        found = seen_within(as_cube(HOME), cube_stepped, 10)
        for shape, fronts, x, y in itertools.product(ALL_SHAPES, ALL_FRONTS, (0, 1, 2, 4), (0, -2)):
            goal = shape, (x, 0, 0), (1, y - 1, 0), fronts
            if (x, y, shape, fronts) in found:
                self.assertEqual(cube_fewest(HOME, goal), found[x, y, shape, fronts])
            else:
                for function in (cube_fewest, cube_best):
                    with self.assertRaises(CanNot):
                        function(HOME, goal)
                with self.assertRaises(CanNot):
                    is_cube_best(HOME, goal, goal)

    def test_best_beside_all_stands_near(self):
        near = tips_within(HOME, 6)
        draw = Draw(1003)
        for goal in draw.chance.sample(sorted(near), 25):
            like = [own for own in near if as_cube(own) == as_cube(goal)]
            fewest = min(near[own] for own in like)
            self.assertEqual(cube_fewest(HOME, goal), fewest)
            self.assertEqual(cube_fewest(HOME, unlike(draw, goal)), fewest)
            best = cube_best(HOME, goal)
            self.assertEqual((as_cube(best), near[best]), (as_cube(goal), fewest))
            for own in like + draw.chance.sample(sorted(near), 20):
                self.assertIs(is_cube_best(HOME, goal, own), own in like and near[own] == fewest)

    def test_far_ones_beside_many_more_counts(self):
        """All but one of each three to 7 by size, whichever is the one."""
        draw = Draw(1004)
        far = 0
        for number in range(12):
            stand = draw.stand(9)
            there = walked(stand, draw.tips(6))
            there = there[0], (there[1][0] + 4 * draw.number(GREAT),) + there[1][1:], there[2], there[3]
            goal = unlike(draw, there)
            sums = [(sum(goal[line]) - sum(stand[line])) // 2 for line in (1, 2)]
            triples = []
            for total in sums:
                least = {}
                for place, pair in itertools.product(range(3), itertools.product(range(-7, 8), repeat=2)):
                    own = pair[:place] + (total - sum(pair),) + pair[place:]
                    kind = tuple((count % 8, count == 0) for count in own)
                    least[kind] = min(least.get(kind, own), own, key=lambda own: sum(map(abs, own)))
                triples.append(draw.chance.sample(list(least.values()), 25))
            told = cube_fewest(stand, goal)
            for over_x, over_y in itertools.product(*triples):
                counts = tuple(count for both in zip(over_x, over_y) for count in both)
                tips = fewest_of_counts(stand[0], goal[0], counts)
                if tips is not None and stand_by(stand, goal[0], counts)[3] == goal[3]:
                    self.assertLessEqual(told, tips)
                    far += 1
        self.assertGreater(far, 20)

    def test_guarantees(self):
        draw = Draw(1005)
        for number in range(60):
            stand = draw.stand(GREAT if number % 3 == 0 else 9)
            goal = walked(stand, draw.tips(draw.chance.randint(0, 9)))
            goal = goal[0], (goal[1][0] + 4 * draw.number(draw.chance.choice((1, GREAT))),) + goal[1][1:], goal[2], goal[3]
            told, blank = cube_fewest(stand, goal), blank_fewest(stand, goal)
            self.assertTrue(blank <= told <= blank + 6)
            best = cube_best(stand, goal)
            self.assertEqual(as_cube(best), as_cube(goal))
            self.assertIs(can_tip_to(stand, best), True)
            self.assertEqual(fewest_tips(stand, best), told)
            self.assertIs(is_cube_best(stand, goal, best), True)
            self.assertEqual(cube_fewest(goal, stand), told)

    def test_turned_half_round_where_it_stands(self):
        """About the upright, and turned over, about each side that lies: six tips; mirrored: never."""
        found = seen_within(as_cube(HOME), cube_stepped, 6)
        for fronts in ALL_FRONTS:
            goal = HOME[:3] + (fronts,)
            if fronts.count(-1) % 2 == 0:
                self.assertEqual(cube_fewest(HOME, goal), found[as_cube(goal)])
                self.assertEqual(cube_fewest(HOME, goal), 0 if goal == HOME else 6)
            else:
                with self.assertRaises(CanNot):
                    cube_fewest(HOME, goal)

    def test_sums_that_differ_by_odd_numbers(self):
        for goal in ((HOME[0], (1, 0, 0)) + HOME[2:], HOME[:2] + ((0, 0, 5), HOME[3]),
                     (HOME[0], (1, 1, 1), (1, 0, 0), HOME[3])):
            for function in (cube_fewest, cube_best, blank_fewest):
                with self.assertRaises(CanNot):
                    function(HOME, goal)
            with self.assertRaises(CanNot):
                is_cube_best(HOME, goal, None)
        # Odd ones of both: what they differ by is even.
        odd = HOME[0], (1, 0, 0), (0, 0, 3), HOME[3]
        self.assertEqual((cube_fewest(odd, odd), cube_best(odd, odd), blank_fewest(odd, odd)), (0, odd, 0))
        self.assertEqual(cube_fewest(odd, walked(odd, (EAST, NORTH))), 2)

    def test_what_is_none(self):
        aside, best = ((1, 2, 0), (0, 0, 0), (0, 0, 0), (1, 1, 1)), ((1, 2, 0), (-1, 1, 0), (0, -1, 1), (1, 1, 1))
        self.assertIs(is_cube_best(HOME, aside, best), True)
        for thing in (list(best), (best,), best[:3], None, True, "best", (), aside, (best[0], (-1, True, 0)) + best[2:],
                      best[:3] + ((1, 1, True),), best[:3] + ((1, -1, -1),), ((2, 0, 1),) + best[1:],
                      (list(best[0]),) + best[1:], (best[0], (-1, 0, 0)) + best[2:]):
            self.assertIs(is_cube_best(HOME, aside, thing), False, thing)
        # It looks like it, no tips lead there; or more tips do.
        self.assertIs(is_cube_best(HOME, HOME, (HOME[0], (1, -1, 0)) + HOME[2:]), False)
        self.assertIs(is_cube_best(HOME, HOME, (HOME[0], (4, -4, 0)) + HOME[2:]), False)

    def test_wrong_inputs(self):
        for function in (cube_fewest, cube_best, blank_fewest):
            for value in (None, True, HOME[:3], HOME + HOME, "home", (HOME,), ()):
                for args in ((value, HOME), (HOME, value)):
                    with self.assertRaises(Unfit):
                        function(*args)
                    if function is cube_best:
                        with self.assertRaises(Unfit):
                            is_cube_best(*args, HOME)


class Blank(unittest.TestCase):
    def test_beside_a_search(self):
        near = tips_within(HOME, 6)
        for x, y in itertools.product(range(-8, 9, 2), repeat=2):
            tips = [many for own, many in near.items() if (sum(own[1]), sum(own[2])) == (x, y)]
            told = blank_fewest(HOME, ((2, 0, 1), (x, 0, 0), (5, y, -5), (1, -1, 1)))
            self.assertEqual(told, (abs(x) + abs(y)) // 2)
            if told <= 6:
                self.assertEqual(told, min(tips))

    def test_from_elsewhere(self):
        draw = Draw(1011)
        for stand in draw.stands(60):
            goal = draw.stand(GREAT)
            off = [sum(goal[line]) - sum(stand[line]) for line in (1, 2)]
            if any(own % 2 for own in off):
                with self.assertRaises(CanNot):
                    blank_fewest(stand, goal)
            else:
                self.assertEqual(blank_fewest(stand, goal), sum(abs(own) // 2 for own in off))


class Bars(unittest.TestCase):
    def test_seen(self):
        draw = Draw(1021)
        for stand in draw.stands(60):
            for side in SIDES:
                self.assertEqual(bar_seen(stand, side), as_bar(stand, side))

    def test_beside_a_search_of_what_is_seen(self):
        draw = Draw(1022)
        for shape, side in itertools.product(ALL_SHAPES, SIDES):
            stand = (shape,) + draw.stand(draw.chance.choice((9, GREAT)))[1:]
            found = seen_within(as_bar(stand, side), bar_stepped, 10)
            for seen in draw.chance.sample(sorted(found), 15):
                goal = self.goal_of(draw, seen, side)
                self.assertEqual(as_bar(goal, side), seen)
                self.assertEqual(bar_fewest(stand, goal, side), found[seen])

    def goal_of(self, draw, seen, side):
        """A STAND that looks so, its other numbers drawn."""
        place, *numbers = seen
        shape = draw.chance.choice([own for own in ALL_SHAPES if own[place] == side])
        lines = []
        for own, others in (numbers[:2], numbers[2:]):
            one = draw.number(9)
            rest = [one, others - one]
            lines.append(tuple(own if at == side else rest.pop() for at in SIDES))
        return shape, lines[0], lines[1], draw.chance.choice(ALL_FRONTS)

    def test_all_near(self):
        for side in SIDES:
            found = seen_within(as_bar(HOME, side), bar_stepped, 12)
            for seen in itertools.product(range(3), range(-1, 2), range(-1, 2), range(-1, 2), range(-1, 3)):
                goal = self.goal_of(Draw(1023), seen, side)
                if seen in found:
                    self.assertEqual(bar_fewest(HOME, goal, side), found[seen])
                    self.assertEqual(bar_seen(bar_best(HOME, goal, side), side), seen)
                else:
                    for function in (bar_fewest, bar_best):
                        with self.assertRaises(CanNot):
                            function(HOME, goal, side)
                    with self.assertRaises(CanNot):
                        is_bar_best(HOME, goal, side, goal)

    def test_best_beside_all_stands_near(self):
        near = tips_within(HOME, 6)
        draw = Draw(1024)
        for goal, side in itertools.product(draw.chance.sample(sorted(near), 12), SIDES):
            like = [own for own in near if as_bar(own, side) == as_bar(goal, side)]
            fewest = min(near[own] for own in like)
            self.assertEqual(bar_fewest(HOME, goal, side), fewest)
            best = bar_best(HOME, goal, side)
            self.assertEqual((as_bar(best, side), near[best]), (as_bar(goal, side), fewest))
            for own in like + draw.chance.sample(sorted(near), 20):
                self.assertIs(is_bar_best(HOME, goal, side, own), own in like and near[own] == fewest)

    def test_far_ones_beside_many_more_counts(self):
        """One of the two others to 9 by size, of each axis, whichever; no STAND that looks so comes by fewer."""
        draw = Draw(1025)
        for number in range(36):
            stand = draw.stand(9)
            side = number % 3
            there = walked(stand, draw.tips(7))
            # Far by 4 each, so that tips come there as before.
            at = draw.chance.choice(SIDES)
            xs = tuple(own + 4 * draw.number(GREAT) if place == at else own for place, own in enumerate(there[1]))
            goal = there[0], xs, there[2], there[3]
            told = bar_fewest(stand, goal, side)
            triples = []
            for axis, line in ((0, 1), (1, 2)):
                more = [b - a for a, b in zip(stand[line], goal[line])]
                place = [LINK_SIDES[link] for link in range(axis, 6, 2)].index(side)
                for_side, others = sum(more) // 2 - more[side], more[side]
                pairs = [(one, others - one) for one in range(-9, 10)] + [(others - one, one) for one in range(-9, 10)]
                triples.append([pair[:place] + (for_side,) + pair[place:] for pair in pairs])
            tips = []
            for over_x, over_y in itertools.product(*triples):
                counts = tuple(count for both in zip(over_x, over_y) for count in both)
                for shape in ALL_SHAPES:
                    if shape.index(side) == goal[0].index(side):
                        tips.append(fewest_of_counts(stand[0], shape, counts))
            self.assertEqual(told, min(own for own in tips if own is not None))

    def test_guarantees(self):
        draw = Draw(1026)
        for number in range(60):
            stand = draw.stand(GREAT if number % 3 == 0 else 9)
            goal = walked(stand, draw.tips(draw.chance.randint(0, 9)))
            for side in SIDES:
                told = bar_fewest(stand, goal, side)
                self.assertLessEqual(told, fewest_tips(stand, goal))
                best = bar_best(stand, goal, side)
                self.assertEqual(as_bar(best, side), as_bar(goal, side))
                self.assertEqual(fewest_tips(stand, best), told)
                self.assertIs(is_bar_best(stand, goal, side, best), True)
                self.assertIs(is_bar_best(stand, goal, side, list(best)), False)
                # FRONTS do not matter.
                self.assertEqual(bar_fewest(stand, goal[:3] + (draw.chance.choice(ALL_FRONTS),), side), told)

    def test_sums_that_differ_by_odd_numbers(self):
        for side in SIDES:
            for goal in ((HOME[0], (1, 0, 0)) + HOME[2:], HOME[:2] + ((0, 0, 5), HOME[3]), (HOME[0], (1, 1, 1)) + HOME[2:]):
                for function in (bar_fewest, bar_best):
                    with self.assertRaises(CanNot):
                        function(HOME, goal, side)
                with self.assertRaises(CanNot):
                    is_bar_best(HOME, goal, side, HOME)

    def test_what_is_none(self):
        far, twice = ((0, 1, 2), (0, 2, 2), (0, 0, 0), (1, -1, -1)), ((0, 1, 2), (2, 0, 2), (0, 0, 0), (-1, 1, -1))
        self.assertIs(is_bar_best(HOME, far, 2, twice), True)
        self.assertIs(is_bar_best(HOME, far, 2, far), False)
        for thing in (list(twice), (twice,), twice[:3], None, True, (), HOME, twice[:3] + ((1, 1, 1),),
                      (twice[0], (2, False, 2)) + twice[2:], ((1, 0, 2),) + twice[1:]):
            self.assertIs(is_bar_best(HOME, far, 2, thing), False, thing)

    def test_wrong_inputs(self):
        right = HOME, HOME, 0
        wrong = [None, True, False, HOME[:3], "0", (), (0,), -1, 3, 1.0]
        for function in (bar_fewest, bar_best):
            for at, value in itertools.product(range(3), wrong):
                with self.assertRaises(Unfit):
                    function(*right[:at], value, *right[at + 1:])
        for value in wrong:
            with self.assertRaises(Unfit):
                bar_seen(HOME, value)
            with self.assertRaises(Unfit):
                is_bar_best(HOME, HOME, value, HOME)
        with self.assertRaises(Unfit):
            bar_seen(HOME[:3], 0)


class Steps(unittest.TestCase):
    def test_what_is_seen_behind_a_tip(self):
        """The searches above step as STANDS do."""
        draw = Draw(1031)
        for stand in draw.stands(60):
            for move in ALL_TIPS:
                there = stepped(stand, move)
                self.assertEqual(cube_stepped(as_cube(stand), move), as_cube(there))
                for side in SIDES:
                    self.assertEqual(bar_stepped(as_bar(stand, side), move), as_bar(there, side))


if __name__ == "__main__":
    unittest.main()
