"""[19]: CHESTS with told sides turned, beside all SLANTS of small size and searches of all rows of few turns."""

import itertools
import math
import unittest

from movedchest.errors import CanNot, TooMany, Unfit
from movedchest.slants import can_turn_to, fewest_turns, slants_between, stand_by_slants
from movedchest.toldturns import (
    best_slants, best_turn_goal, can_turn_there, fewest_turns_to, is_best_turn_goal, is_turn_row, turn_rests, turn_row,
)
from tests.drawn import ALL_FRONTS, ALL_SHAPES, ALL_TURNS, GREAT, HOME, Draw
from tests.search import turns_within, walked
from tests.sides import found_by, middle_told

LYING, ACROSS = (0, 1, 2), (1, 0, 2)
# All sides alike, with and without a divisor in common, two alike, all unlike.
SIDES = [(1, 1, 1), (3, 3, 3), (2, 2, 5), (1, 4, 1), (2, 3, 5), (2, 4, 6), (6, 9, 1), (7, 2, 4)]
LONG = [(60, 59, 1), (59, 60, 2), (60, 60, 60), (60, 1, 1), (1, 60, 1), (60, 58, 7), (60, 45, 1), (53, 47, 1)]


def halves_told(chest, stand, middle):
    """p and q, doubled, and both sides that lie."""
    east, north = (to - own for to, own in zip(middle, middle_told(chest, stand)))
    return (east + north, east - north), chest[stand[0][0]], chest[stand[0][1]]


def leads_there(chest, stand, shape, middle, slants):
    """Whether SLANTS lead there, as the document tells it."""
    s, d, t, e = slants
    (p, q), a, b = halves_told(chest, stand, middle)
    if (s - d) % 2 or (t - e) % 2 or (2 * (a * s + b * t), 2 * (a * e + b * d)) != (p, q):
        return False
    i, j, k = stand[0]
    return shape == ((i, j, k) if (s + t) % 2 == 0 else (j, i, k))


def turns_told(slants):
    s, d, t, e = slants
    return max(abs(s), abs(d)) + max(abs(t), abs(e))


def boxed(a, b, number, odd, most):
    """Whether a x + b y = number for some x, y, odd as told and each by size at most as most tells."""
    step = 2 * b // math.gcd(a, b)
    first = [x for x in range(odd[0], odd[0] + step, 2) if (number - a * x - b * odd[1]) % (2 * b) == 0]
    if not first:
        return False
    # x between -most[0] and most[0], and so that y is between -most[1] and most[1].
    low = max(-most[0], -((b * most[1] - number) // a))
    high = min(most[0], (number + b * most[1]) // a)
    return low + (first[0] - low) % step <= high


def fewest_by_boxes(chest, stand, shape, middle):
    """The least sum of two sizes between which there are s, d and t, e, tried one by one; None if none lead there."""
    (p, q), a, b = halves_told(chest, stand, middle)
    i, j, k = stand[0]
    if p % 2 or shape not in ((i, j, k), (j, i, k)):
        return None
    p, q = p // 2, q // 2
    odds = [(u, v) for u in (0, 1) for v in (0, 1) if (u + v) % 2 == int(shape != (i, j, k))]
    g = math.gcd(a, b)
    odds = [(u, v) for u, v in odds if not (p - a * u - b * v) % (2 * g) and not (q - b * u - a * v) % (2 * g)]
    if not odds:
        return None
    for turns in itertools.count(max(abs(p), abs(q)) // max(a, b)):
        for most in range(turns + 1):
            for odd in odds:
                box = most, turns - most
                if boxed(a, b, p, odd, box) and boxed(b, a, q, odd, box):
                    return turns


class BesideAllSlants(unittest.TestCase):
    def test_small_slants(self):
        """SLANTS by size at most 5: nothing that needs at most 5 turns is left out."""
        draw = Draw(701)
        small = list(itertools.product(range(-5, 6), repeat=2))
        pairs = [(x, y) for x in small for y in small if (x[0] - x[1]) % 2 == 0 and (y[0] - y[1]) % 2 == 0]
        for chest in SIDES:
            stand = draw.stand()
            a, b = chest[stand[0][0]], chest[stand[0][1]]
            here = middle_told(chest, stand)
            least = {}
            for (s, d), (t, e) in pairs:
                p, q = a * s + b * t, a * e + b * d
                own = (s + t) % 2, (here[0] + p + q, here[1] + p - q)
                turns = turns_told((s, d, t, e))
                least[own] = min(turns, least.get(own, turns))
            for odd, middle in draw.chance.sample(sorted(least), 200):
                i, j, k = stand[0]
                shape = (j, i, k) if odd else (i, j, k)
                self.assertIs(can_turn_there(chest, stand, shape, middle), True)
                turns = fewest_turns_to(chest, stand, shape, middle)
                self.assertEqual(min(turns, 6), min(least[odd, middle], 6))

    def test_where_none_lead(self):
        """For MIDDLES near, all SLANTS by size at most 9: enough with small sides."""
        for chest in ((1, 1, 2), (2, 2, 1), (2, 1, 2), (3, 3, 1), (2, 3, 1)):
            for shape in ALL_SHAPES:
                for middle in itertools.product(range(-3, 4), repeat=2):
                    found = [turns_told((s, d, t, e)) for s, d, t, e in self.all_slants(chest, shape, middle)]
                    self.assertIs(can_turn_there(chest, HOME, shape, middle), found != [])
                    if found:
                        self.assertEqual(fewest_turns_to(chest, HOME, shape, middle), min(found))
                    else:
                        with self.assertRaises(CanNot):
                            fewest_turns_to(chest, HOME, shape, middle)

    def all_slants(self, chest, shape, middle):
        (p, q), a, b = halves_told(chest, HOME, middle)
        near = list(itertools.product(range(-9, 10), repeat=2))
        first = [(s, t) for s, t in near if 2 * (a * s + b * t) == p]
        second = [(d, e) for d, e in near if 2 * (a * e + b * d) == q]
        every = [(s, d, t, e) for (s, t) in first for (d, e) in second]
        return [own for own in every if leads_there(chest, HOME, shape, middle, own)]

    def test_by_boxes(self):
        draw = Draw(702)
        seen = {True: 0, False: 0}
        for number in range(240):
            chest = draw.chance.choice(SIDES + LONG + [(draw.chance.randint(1, 60), draw.chance.randint(1, 60), 1)])
            stand = draw.stand()
            shape = stand[0] if number % 2 else (stand[0][1], stand[0][0], stand[0][2])
            goal = walked(stand, draw.row(draw.chance.randint(0, 9), ALL_TURNS))
            far = 20 * max(chest) * draw.chance.choice((0, 1, 1))
            middle = tuple(own + draw.number(far) for own in middle_told(chest, goal))
            told = fewest_by_boxes(chest, stand, shape, middle)
            seen[told is not None] += 1
            self.assertIs(can_turn_there(chest, stand, shape, middle), told is not None)
            if told is not None:
                self.assertEqual(fewest_turns_to(chest, stand, shape, middle), told, (chest, stand, shape, middle))
        self.assertGreater(min(seen.values()), 20)

    def test_by_boxes_that_can_be_come_to(self):
        """By SLANTS drawn, so that turns come there: great and small numbers, one way and both."""
        draw = Draw(703)
        for _ in range(150):
            chest = draw.chance.choice(SIDES + LONG)
            stand = draw.stand()
            most = draw.chance.choice((1, 3, 40))
            s, t, d, e = (draw.number(draw.chance.choice((1, most))) for _ in range(4))
            slants = s, d + (s - d) % 2, t, e + (t - e) % 2
            goal = stand_by_slants(stand, slants)
            middle = middle_told(chest, goal)
            told = fewest_turns_to(chest, stand, goal[0], middle)
            self.assertEqual(told, fewest_by_boxes(chest, stand, goal[0], middle))
            self.assertLessEqual(told, fewest_turns(stand, goal))


class BesideSearch(unittest.TestCase):
    def test_all_rows_of_few_turns(self):
        draw = Draw(711)
        for chest in SIDES:
            for shape in draw.chance.sample(ALL_SHAPES, 2):
                stand = (shape,) + draw.stand(draw.chance.choice((9, GREAT)))[1:]
                found = found_by(chest, turns_within(stand, 6))
                for own in draw.chance.sample(sorted(found), 60):
                    self.assertIs(can_turn_there(chest, stand, *own), True)
                    self.assertEqual(fewest_turns_to(chest, stand, *own), found[own])

    def test_near_middles_with_each_shape(self):
        for chest in ((1, 1, 1), (2, 3, 1), (2, 2, 2)):
            found = found_by(chest, turns_within(HOME, 8))
            for shape in ALL_SHAPES:
                for middle in itertools.product(range(-5, 6), repeat=2):
                    can = can_turn_there(chest, HOME, shape, middle)
                    if (shape, middle) in found:
                        self.assertEqual(fewest_turns_to(chest, HOME, shape, middle), found[shape, middle])
                    elif can:
                        self.assertGreater(fewest_turns_to(chest, HOME, shape, middle), 8)

    def test_other_shapes_and_half_numbers(self):
        for shape in ((2, 1, 0), (2, 0, 1), (1, 2, 0), (0, 2, 1)):
            for middle in ((0, 0), (5, 1), (1, 0)):
                self.assertIs(can_turn_there((3, 2, 5), HOME, shape, middle), False)
                self.assertEqual(turn_rests((3, 2, 5), HOME, shape), ())
                for function in (fewest_turns_to, best_slants, best_turn_goal, turn_row):
                    with self.assertRaises(CanNot):
                        function((3, 2, 5), HOME, shape, middle)
        # p and q not whole: of cubes, too.
        for chest in ((1, 1, 1), (3, 2, 5)):
            for shape in (LYING, ACROSS):
                for middle in ((1, 0), (0, 3), (-2, 5), (GREAT, 1)):
                    self.assertIs(can_turn_there(chest, HOME, shape, middle), False)
                    with self.assertRaises(CanNot):
                        fewest_turns_to(chest, HOME, shape, middle)

    def test_fronts_do_not_matter(self):
        draw = Draw(712)
        for stand in draw.stands(6):
            goal = walked(stand, draw.row(5, ALL_TURNS))
            middle = middle_told((2, 3, 5), goal)
            told = {fewest_turns_to((2, 3, 5), stand[:3] + (own,), goal[0], middle) for own in ALL_FRONTS}
            self.assertEqual(len(told), 1)


class Rests(unittest.TestCase):
    def test_beside_can_turn_there(self):
        for chest in SIDES + [(4, 6, 1), (6, 4, 1), (5, 5, 5)]:
            stand = Draw(sum(chest)).stand()
            here = middle_told(chest, stand)
            double = 2 * math.gcd(chest[stand[0][0]], chest[stand[0][1]])
            for shape in ALL_SHAPES:
                told = turn_rests(chest, stand, shape)
                self.assertEqual(told, tuple(sorted(set(told))))
                for p, q in itertools.product(range(-double, 2 * double), repeat=2):
                    middle = here[0] + p + q, here[1] + p - q
                    self.assertEqual(can_turn_there(chest, stand, shape, middle), (p % double, q % double) in told)

    def test_how_many(self):
        # Sides alike: oddly many turns, and evenly many, leave other pairs, or one and the same.
        self.assertEqual(turn_rests((1, 1, 1), HOME, LYING), ((0, 0),))
        self.assertEqual(turn_rests((1, 1, 1), HOME, ACROSS), ((1, 1),))
        self.assertEqual(turn_rests((60, 60, 60), HOME, ACROSS), ((60, 60),))
        self.assertEqual(turn_rests((60, 20, 1), HOME, LYING), ((0, 0),))
        self.assertEqual(turn_rests((6, 9, 1), HOME, LYING), ((0, 0), (3, 3)))

    def test_wrong_inputs(self):
        for args in (((3, 2, 0), HOME, LYING), ((3, 2, 5), HOME[:3], LYING), ((3, 2, 5), HOME, (0, 1, 1)),
                     ((3, 2, 5), HOME, None), (True, HOME, LYING)):
            with self.assertRaises(Unfit):
                turn_rests(*args)


class Best(unittest.TestCase):
    def cases(self, seed, many):
        """Tuples (chest, stand, shape, middle) that turns come to."""
        draw = Draw(seed)
        for stand in draw.stands(many):
            chest = draw.chance.choice(SIDES + LONG)
            goal = walked(stand, draw.row(draw.chance.randint(0, 40), ALL_TURNS))
            yield chest, stand, goal[0], middle_told(chest, goal)

    def test_slants_goal_and_row(self):
        for args in self.cases(721, 120):
            chest, stand, shape, middle = args
            turns = fewest_turns_to(*args)
            slants = best_slants(*args)
            self.assertTrue(leads_there(*args, slants))
            self.assertEqual(turns_told(slants), turns)
            goal = best_turn_goal(*args)
            self.assertEqual((goal[0], middle_told(chest, goal)), (shape, middle))
            self.assertEqual(slants_between(stand, goal), slants)
            self.assertIs(can_turn_to(stand, goal), True)
            self.assertEqual(fewest_turns(stand, goal), turns)
            self.assertIs(is_best_turn_goal(*args, goal), True)
            self.assertIs(is_best_turn_goal(*args, list(goal)), False)
            row = turn_row(*args)
            there = walked(stand, row)
            self.assertEqual((len(row), there[0], middle_told(chest, there)), (turns, shape, middle))
            self.assertTrue(all(move in ALL_TURNS for move in row))
            self.assertIs(is_turn_row(*args, row), True)
            self.assertIs(is_turn_row(*args, list(row)), False)

    def test_bounds_of_great_numbers(self):
        """At least p, q by the greater side, both by the sum; from there back as many."""
        draw = Draw(722)
        for number in range(120):
            chest = draw.chance.choice(SIDES + LONG)
            stand = draw.stand(GREAT)
            slants = [draw.number(draw.chance.choice((5, GREAT))) for _ in range(4)]
            slants[1] += (slants[0] - slants[1]) % 2
            slants[3] += (slants[2] - slants[3]) % 2
            goal = stand_by_slants(stand, tuple(slants))
            args = chest, stand, goal[0], middle_told(chest, goal)
            (p, q), a, b = halves_told(chest, stand, args[3])
            turns = fewest_turns_to(*args)
            self.assertTrue(leads_there(*args, best_slants(*args)))
            self.assertEqual(turns_told(best_slants(*args)), turns)
            self.assertLessEqual(turns, fewest_turns(stand, goal))
            self.assertGreaterEqual(2 * turns * max(a, b), max(abs(p), abs(q)))
            self.assertGreaterEqual(2 * turns * (a + b), abs(p) + abs(q))
            # No more than what is told by whole numbers less, but for some steps by the sides.
            least = max(max(abs(p), abs(q)) // (2 * max(a, b)), (abs(p) + abs(q)) // (2 * (a + b)))
            self.assertLess(turns, least + 4 * (a + b) + 4)
            back = best_turn_goal(*args)
            self.assertEqual(fewest_turns_to(chest, back, stand[0], middle_told(chest, stand)), turns)

    def test_as_many_more_for_each_step_on(self):
        """As far on by turns that all go straight there: just so many more."""
        for chest in SIDES + LONG:
            a, b, _ = chest
            if a == b:
                continue
            # s, d and t, e grow by 2 each: p and q by 2 a + 2 b, the turns by 4.
            step = 2 * (a + b)
            near = fewest_turns_to(chest, HOME, LYING, (200 * step, 0))
            far = fewest_turns_to(chest, HOME, LYING, (200 * step + 2 * step * 10 ** 9, 0))
            self.assertEqual(far - near, 4 * 10 ** 9)

    def test_sides_alike(self):
        """One number alone for each pair of turns: as many as the greater of p and q, divided by the side."""
        draw = Draw(723)
        for side in (1, 2, 7, 60):
            for _ in range(60):
                most = draw.chance.choice((4, 30, 10 ** 10))
                p, q = (2 * draw.number(most) for _ in range(2))
                more = draw.chance.choice((0, 1))
                shape = ACROSS if more else LYING
                middle = side * (p + q + 2 * more), side * (p - q)
                turns = fewest_turns_to((side, side, 3), HOME, shape, middle)
                self.assertEqual(turns, max(abs(p + more), abs(q + more)))

    def test_there_already(self):
        draw = Draw(724)
        for chest in SIDES + LONG:
            for stand in draw.stands(4):
                args = chest, stand, stand[0], middle_told(chest, stand)
                self.assertEqual((fewest_turns_to(*args), best_slants(*args)), (0, (0, 0, 0, 0)))
                self.assertEqual((best_turn_goal(*args), turn_row(*args)), (stand, ()))
                self.assertIs(is_turn_row(*args, ()), True)
                self.assertIs(is_turn_row(*args, []), False)
                self.assertIs(is_best_turn_goal(*args, stand), True)

    def test_2000_turns_and_more(self):
        side = (1, 1, 1)
        for middle, turns in (((2000, 0), 1000), ((3998, 2), 2000), ((4000, 0), 2000), ((2000, -2000), 2000),
                              ((4000, 4), 2002)):
            args = side, HOME, LYING, middle
            self.assertEqual(fewest_turns_to(*args), turns)
            if turns <= 2000:
                row = turn_row(*args)
                there = walked(HOME, row)
                self.assertEqual((len(row), there[0], middle_told(side, there)), (turns, LYING, middle))
            else:
                with self.assertRaises(TooMany):
                    turn_row(*args)
        # A thing is such a ROW however long it is.
        row = (("turn", 1, -1), ("turn", 2, 1)) * 1001
        there = walked(HOME, row)
        args = side, HOME, there[0], middle_told(side, there)
        self.assertEqual(fewest_turns_to(*args), 2002)
        self.assertIs(is_turn_row(*args, row), True)
        with self.assertRaises(TooMany):
            turn_row(*args)
        with self.assertRaises(CanNot):
            turn_row(side, HOME, ACROSS, (4004, 0))


class Things(unittest.TestCase):
    def test_is_turn_row_beside_all_rows(self):
        for chest, shape, middle in (((3, 2, 5), ACROSS, (5, 1)), ((3, 2, 5), LYING, (10, 0)), ((1, 1, 1), LYING, (2, 2)),
                                     ((1, 1, 1), LYING, (0, 0)), ((2, 2, 1), ACROSS, (4, 0)), ((3, 2, 5), LYING, (1, 0))):
            found = found_by(chest, turns_within(HOME, 3))
            for many in range(4):
                for row in itertools.product(ALL_TURNS, repeat=many):
                    there = walked(HOME, row)
                    comes = (there[0], middle_told(chest, there)) == (shape, middle)
                    self.assertIs(is_turn_row(chest, HOME, shape, middle, row),
                                  comes and found[shape, middle] == many)

    def test_is_best_turn_goal_beside_all_near(self):
        for chest, shape, middle in (((1, 1, 1), LYING, (2, 2)), ((2, 2, 3), ACROSS, (8, 4)), ((3, 2, 5), LYING, (10, 0)),
                                     ((1, 1, 1), LYING, (4, 0)), ((2, 1, 1), ACROSS, (3, 1))):
            near = turns_within(HOME, 4)
            there = [own for own in near if (own[0], middle_told(chest, own)) == (shape, middle)]
            fewest = min(near[own] for own in there)
            best = {own for own in there if near[own] == fewest}
            for own in near:
                self.assertIs(is_best_turn_goal(chest, HOME, shape, middle, own), own in best)
            # With other FRONTS it is none.
            for own in best:
                for fronts in ALL_FRONTS:
                    self.assertIs(is_best_turn_goal(chest, HOME, shape, middle, own[:3] + (fronts,)),
                                  fronts == own[3])

    def test_what_is_none(self):
        args = (3, 2, 5), HOME, ACROSS, (5, 1)
        row, goal = (("turn", 1, -1),), ((1, 0, 2), (1, 1, 0), (1, -1, 0), (-1, 1, 1))
        self.assertEqual(middle_told(args[0], goal), (5, 1))
        self.assertIs(is_turn_row(*args, row), True)
        self.assertIs(is_best_turn_goal(*args, goal), True)
        for thing in (list(row), (["turn", 1, -1],), (("turn", True, -1),), row * 5, (), None, True, "turn", row[0],
                      (row,), row + (None,), (("turn", 1),), (("turn", 1, -1), ("tip", 0), ("tip", 2))):
            self.assertIs(is_turn_row(*args, thing), False, thing)
        for thing in (list(goal), (goal,), goal[:3], goal + (1,), None, True, "goal", (), HOME,
                      (list(goal[0]),) + goal[1:], (goal[0], (True, 1, 0)) + goal[2:],
                      goal[:3] + ((-1, 1, -1),)):
            self.assertIs(is_best_turn_goal(*args, thing), False, thing)
        # Three tips come there, too; turns alone count.
        tips = (("tip", 3), ("tip", 0), ("tip", 1))
        there = walked(HOME, tips)
        aside = (3, 2, 5), HOME, there[0], middle_told((3, 2, 5), there)
        self.assertEqual(aside[2], ACROSS)
        self.assertIs(is_turn_row(*aside, tips), False)
        # As few tips as turns are needed.
        tips = (("tip", 0), ("tip", 0))
        there = walked(HOME, tips)
        cube = (1, 1, 1), HOME, there[0], middle_told((1, 1, 1), there)
        self.assertEqual((cube[2], fewest_turns_to(*cube)), (LYING, 2))
        self.assertIs(is_turn_row(*cube, tips), False)
        self.assertIs(is_turn_row(*cube, turn_row(*cube)), True)
        # By more turns than are needed.
        longer = row + (("turn", 0, 1), ("turn", 1, -1))
        there = walked(HOME, longer)
        self.assertEqual((there[0], middle_told((3, 2, 5), there)), (ACROSS, (5, 1)))
        self.assertIs(is_turn_row(*args, longer), False)

    def test_where_no_turns_come(self):
        for args in (((3, 2, 5), HOME, ACROSS, (10, 0)), ((3, 2, 5), HOME, (2, 1, 0), (8, 0)),
                     ((3, 2, 5), HOME, LYING, (1, 0))):
            for thing in ((), HOME, (("turn", 0, 1),), None, ((2, 1, 0), (1, 0, 1), (0, 0, 0), (-1, 1, 1))):
                self.assertIs(is_turn_row(*args, thing), False)
                self.assertIs(is_best_turn_goal(*args, thing), False)

    def test_wrong_inputs(self):
        right = (3, 2, 5), HOME, ACROSS, (10, 0)
        wrong = [None, True, "012", (), (1, 2), ((1, 2, 3),), (1, 2, 3, 4, 5)]
        for function in (can_turn_there, fewest_turns_to, best_slants, best_turn_goal, turn_row):
            for at, value in itertools.product(range(4), wrong):
                if at == 3 and value == (1, 2):
                    continue
                with self.assertRaises(Unfit):
                    function(*right[:at], value, *right[at + 1:])
        for function in (is_turn_row, is_best_turn_goal):
            for args in (((3, 2, 0), HOME, ACROSS, (10, 0)), ((3, 2, 5), HOME, ACROSS, (10, 0, 0)),
                         ((3, 2, 5), HOME, (1, 0), (10, 0)), ((3, 2, 5), HOME[1:], ACROSS, (10, 0))):
                with self.assertRaises(Unfit):
                    function(*args, ())


if __name__ == "__main__":
    unittest.main()
