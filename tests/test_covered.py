"""[20]: MIDDLES that tips, and turns, come to, beside all COUNTS of small size."""

import itertools
import math
import unittest

from movedchest.covered import middles_in, nearest_there, rests_there, shapes_there, spacing, turns_in
from movedchest.errors import TooMany, Unfit
from movedchest.told import can_tip_there
from movedchest.toldturns import can_turn_there
from tests.drawn import ALL_FRONTS, ALL_SHAPES, GREAT, HOME, Draw
from tests.search import tips_within, turns_within
from tests.sides import LINK_SIDES, arcs_told, found_by, middle_told

SIDES = [(1, 1, 1), (3, 3, 3), (2, 2, 5), (1, 4, 1), (2, 3, 5), (2, 4, 6), (1, 3, 5), (7, 2, 4), (5, 9, 1)]
LYING, STANDING = (0, 1, 2), (2, 1, 0)
EVEN = (2, 4, 6)


def double_of_sums(chest):
    """The greatest number that divides the sum of each two sides, doubled, by trying."""
    sums = [chest[0] + chest[1], chest[1] + chest[2], chest[0] + chest[2]]
    return 2 * max(own for own in range(1, min(sums) + 1) if not any(each % own for each in sums))


def along(chest, arc, axis, most):
    """All that COUNTS of size at most most move the MIDDLE along an axis, odd just at the arc."""
    values = [sum(chest) - chest[LINK_SIDES[link]] for link in range(axis, 6, 2)]
    odds = [int(link in arc) for link in range(axis, 6, 2)]
    numbers = [[own for own in range(-most, most + 1) if own % 2 == odd] for odd in odds]
    return {sum(a * b for a, b in zip(values, own)) for own in itertools.product(*numbers)}


def by_counts(chest, stand, shape, most, within):
    """The MIDDLES by COUNTS of size at most most from which the one of stand is at most within off, each way."""
    here = middle_told(chest, stand)
    found = set()
    for arc in arcs_told(stand[0], shape):
        east, north = ([own for own in along(chest, arc, axis, most) if abs(own) <= within] for axis in (0, 1))
        found |= {(here[0] + x, here[1] + y) for x in east for y in north}
    return found


def in_square(middles, low, high):
    return sorted(own for own in middles if low <= min(own) and max(own) <= high)


class Spacing(unittest.TestCase):
    def test_beside_trying(self):
        draw = Draw(801)
        for chest in SIDES + [tuple(draw.chance.randint(1, 60) for _ in range(3)) for _ in range(80)]:
            self.assertEqual(spacing(chest), double_of_sums(chest))
            self.assertEqual(spacing(list(chest)), spacing(chest))

    def test_sides_alike(self):
        for side in (1, 2, 30, 60):
            self.assertEqual(spacing((side,) * 3), 4 * side)

    def test_wrong_inputs(self):
        for chest in ((1, 1, 0), (1, 1), (1, 1, 1, 1), None, True, "111", (1, 1, True), ((1, 1, 1),)):
            with self.assertRaises(Unfit):
                spacing(chest)


class Rests(unittest.TestCase):
    def test_beside_all_counts_of_small_size(self):
        draw = Draw(802)
        seen = set()
        for chest in SIDES:
            for shape in ALL_SHAPES:
                stand = draw.stand(draw.chance.choice((9, GREAT)))
                wide = double_of_sums(chest)
                found = {(x % wide, y % wide) for x, y in by_counts(chest, stand, shape, 2, GREAT)}
                told = rests_there(chest, stand, shape)
                self.assertEqual(told, tuple(sorted(found)))
                seen.add(len(told))
        self.assertEqual(seen, {1, 2})

    def test_beside_rows_of_few_tips(self):
        for chest in SIDES:
            stand = Draw(sum(chest)).stand()
            wide = double_of_sums(chest)
            found = {}
            for shape, (x, y) in found_by(chest, tips_within(stand, 7)):
                found.setdefault(shape, set()).add((x % wide, y % wide))
            for shape in ALL_SHAPES:
                self.assertEqual(rests_there(chest, stand, shape), tuple(sorted(found[shape])))

    def test_fronts_do_not_matter(self):
        stand = Draw(803).stand()
        for chest in SIDES:
            self.assertEqual(len({rests_there(chest, stand[:3] + (own,), LYING) for own in ALL_FRONTS}), 1)

    def test_cube_of_side_1(self):
        """As on a chess floor: every other one of those two apart."""
        told = {shape: rests_there((1, 1, 1), HOME, shape) for shape in ALL_SHAPES}
        self.assertEqual(told, {
            (0, 1, 2): ((0, 0), (2, 2)), (2, 1, 0): ((0, 2), (2, 0)), (2, 0, 1): ((0, 0), (2, 2)),
            (1, 0, 2): ((0, 2), (2, 0)), (1, 2, 0): ((0, 0), (2, 2)), (0, 2, 1): ((0, 2), (2, 0)),
        })

    def test_wrong_inputs(self):
        for args in (((1, 1, 0), HOME, LYING), ((1, 1, 1), HOME[:3], LYING), ((1, 1, 1), HOME, (0, 0, 1)),
                     ((1, 1, 1), None, LYING), ((1, 1, 1), HOME, "012"), (True, HOME, LYING)):
            with self.assertRaises(Unfit):
                rests_there(*args)


class Shapes(unittest.TestCase):
    def test_beside_rests(self):
        draw = Draw(804)
        several = 0
        for chest in SIDES:
            stand = draw.stand()
            here = middle_told(chest, stand)
            wide = double_of_sums(chest)
            for _ in range(60):
                middle = here[0] + draw.number(20), here[1] + draw.number(20)
                rest = middle[0] % wide, middle[1] % wide
                expected = [shape for shape in sorted(ALL_SHAPES) if rest in rests_there(chest, stand, shape)]
                told = shapes_there(chest, stand, middle)
                self.assertEqual(told, tuple(expected))
                several += len(told) > 1
        self.assertGreater(several, 20)

    def test_beside_all_counts_of_small_size(self):
        for chest in ((1, 1, 1), (1, 3, 5), (2, 4, 6)):
            found = {shape: by_counts(chest, HOME, shape, 3, 6) for shape in ALL_SHAPES}
            for middle in itertools.product(range(-6, 7), repeat=2):
                self.assertEqual(shapes_there(chest, HOME, middle),
                                 tuple(sorted(shape for shape in ALL_SHAPES if middle in found[shape])))

    def test_wrong_inputs(self):
        for args in ((EVEN, HOME, (0,)), (EVEN, HOME, (0, True)), (EVEN, HOME, None), (EVEN, HOME[:2], (0, 0)),
                     ((2, 4, -6), HOME, (0, 0)), (EVEN, HOME, "00")):
            with self.assertRaises(Unfit):
                shapes_there(*args)


class Nearest(unittest.TestCase):
    def test_beside_all_near(self):
        draw = Draw(805)
        tied = 0
        for chest in SIDES:
            stand = draw.stand()
            here = middle_told(chest, stand)
            wide = double_of_sums(chest)
            for _ in range(12):
                shape = draw.chance.choice(ALL_SHAPES)
                middle = here[0] + draw.number(30), here[1] + draw.number(30)
                near = itertools.product(range(-wide, wide + 1), repeat=2)
                there = [(middle[0] + x, middle[1] + y) for x, y in near
                         if can_tip_there(chest, stand, shape, (middle[0] + x, middle[1] + y))]
                off = {own: abs(own[0] - middle[0]) + abs(own[1] - middle[1]) for own in there}
                best = sorted(own for own in there if off[own] == min(off.values()))
                tied += len(best) > 1
                self.assertEqual(nearest_there(chest, stand, shape, middle), best[0])
        self.assertGreater(tied, 10)

    def test_several_at_one_distance(self):
        self.assertEqual(nearest_there(EVEN, HOME, STANDING, (2, 2)), (0, 0))
        self.assertEqual(nearest_there(EVEN, HOME, STANDING, (2, 0)), (0, 0))
        self.assertEqual(nearest_there(EVEN, HOME, STANDING, (-2, -2)), (-4, -4))
        # Of both pairs of rests.
        self.assertEqual(nearest_there((1, 1, 1), HOME, LYING, (1, 1)), (0, 0))
        self.assertEqual(nearest_there((1, 1, 1), HOME, LYING, (0, 2)), (-2, 2))
        self.assertEqual(nearest_there((1, 1, 1), HOME, LYING, (3, 1)), (2, 2))

    def test_there_itself(self):
        draw = Draw(806)
        for stand in draw.stands(30):
            chest = draw.chance.choice(SIDES)
            shape = draw.chance.choice(ALL_SHAPES)
            middle = draw.number(GREAT), draw.number(GREAT)
            near = nearest_there(chest, stand, shape, middle)
            self.assertIs(can_tip_there(chest, stand, shape, near), True)
            self.assertEqual(nearest_there(chest, stand, shape, near), near)
            self.assertLessEqual(max(abs(a - b) for a, b in zip(near, middle)), double_of_sums(chest) // 2)

    def test_wrong_inputs(self):
        for args in ((EVEN, HOME, LYING, (0,)), (EVEN, HOME, LYING, (0, 0, 0)), (EVEN, HOME, (0, 1), (0, 0)),
                     ((2, 4), HOME, LYING, (0, 0)), (EVEN, HOME + HOME, LYING, (0, 0)), (EVEN, HOME, LYING, True)):
            with self.assertRaises(Unfit):
                nearest_there(*args)


class Listed(unittest.TestCase):
    def test_middles_beside_all_counts_of_small_size(self):
        draw = Draw(807)
        for chest in ((1, 1, 1), (2, 2, 2), (1, 3, 5), (2, 4, 6), (2, 2, 1), (3, 1, 2)):
            for shape in ALL_SHAPES:
                stand = draw.stand(3)
                here = middle_told(chest, stand)
                low, high = min(here) - 6, max(here) + 6
                wide = high - low
                # Great enough sizes: along one axis by one LINK, the rest by the others.
                most = 2 + (wide + 2 * sum(chest)) // 2
                found = in_square(by_counts(chest, stand, shape, min(most, 14), wide), low, high)
                self.assertEqual(middles_in(chest, stand, shape, low, high), found)

    def test_middles_beside_can_tip_there(self):
        draw = Draw(808)
        for chest in SIDES:
            stand, shape = draw.stand(), draw.chance.choice(ALL_SHAPES)
            for low, high in ((-9, 9), (0, 12), (-7, -2), (5, 5), (4, 4), (0, 0)):
                expected = [own for own in itertools.product(range(low, high + 1), repeat=2)
                            if can_tip_there(chest, stand, shape, own)]
                self.assertEqual(middles_in(chest, stand, shape, low, high), expected)

    def test_turns_beside_can_turn_there(self):
        draw = Draw(809)
        some = 0
        for chest in SIDES + [(2, 6, 1), (5, 5, 5)]:
            stand = draw.stand()
            for shape in ALL_SHAPES:
                for low, high in ((-9, 9), (1, 14), (-7, -2), (5, 5), (4, 4)):
                    expected = [own for own in itertools.product(range(low, high + 1), repeat=2)
                                if can_turn_there(chest, stand, shape, own)]
                    some += expected != []
                    self.assertEqual(turns_in(chest, stand, shape, low, high), expected)
        self.assertGreater(some, 40)

    def test_turns_beside_rows_of_few_turns(self):
        for chest in ((1, 1, 1), (2, 1, 1), (2, 2, 3), (3, 2, 1)):
            found = found_by(chest, turns_within(HOME, 8))
            for shape in ALL_SHAPES:
                there = in_square({middle for own, middle in found if own == shape}, -4, 4)
                self.assertEqual(turns_in(chest, HOME, shape, -4, 4), there)

    def test_turns_beside_tips(self):
        """A turn is three tips: rows turn to some of the MIDDLES that tips come to, in some CHESTS to all."""
        seen = set()
        for chest in SIDES:
            for shape in ALL_SHAPES:
                turned, tipped = turns_in(chest, HOME, shape, -9, 9), middles_in(chest, HOME, shape, -9, 9)
                self.assertEqual([own for own in turned if own not in tipped], [])
                seen.add(turned == tipped)
        self.assertEqual(seen, {True, False})

    def test_low_above_high(self):
        for function in (middles_in, turns_in):
            for low, high in ((1, 0), (5, -5), (10 ** 6, -10 ** 6), (3, 2)):
                self.assertEqual(function((1, 1, 1), HOME, LYING, low, high), [])
                self.assertEqual(function((3, 2, 5), HOME, LYING, low, high), [])

    def test_up_to_2000_and_more(self):
        """Just those of more than 2,000 are refused: tried as near to that as they come about here."""
        draw = Draw(810)
        counted = set()
        for chest in ((1, 1, 1), (3, 2, 5), (1, 3, 5), (2, 2, 2), (3, 3, 1), (3, 3, 2)):
            for function, wide in ((middles_in, double_of_sums(chest)), (turns_in, 4 * math.gcd(chest[0], chest[1]))):
                for shape, low in itertools.product((LYING, (1, 0, 2)), (0, -7)):
                    stand = (LYING,) + draw.stand()[1:]
                    # What they leave, from a list of few: as many that leave it are in a longer one.
                    near = function(chest, stand, shape, 0, wide - 1)
                    for high in range(low + 60, low + 300):
                        ones = [len(range(low + (rest - low) % wide, high + 1, wide)) for rest in range(wide)]
                        many = sum(ones[x] * ones[y] for x, y in near)
                        if many > 2000:
                            counted.add(many)
                            with self.assertRaises(TooMany):
                                function(chest, stand, shape, low, high)
                        elif many > 1900:
                            counted.add(many)
                            self.assertEqual(len(function(chest, stand, shape, low, high)), many)
        self.assertIn(1985, counted)
        self.assertLess(min(own for own in counted if own > 2000), 2017)

    def test_at_the_bounds(self):
        for function in (middles_in, turns_in):
            with self.assertRaises(TooMany):
                function((3, 2, 5), HOME, LYING, -10 ** 6, 10 ** 6)
            for number in (10 ** 6, -10 ** 6):
                self.assertEqual(function((60, 60, 60), HOME, LYING, number + 1, number + 1), [])
        self.assertEqual(turns_in((1, 1, 1), HOME, STANDING, -10 ** 6, 10 ** 6), [])
        # How many there are, not how far apart.
        wide = middles_in((60, 60, 60), HOME, LYING, -3600, 3600)
        self.assertEqual(len(wide), 31 * 31 + 30 * 30)

    def test_wrong_inputs(self):
        right = (1, 1, 1), HOME, LYING, -2, 2
        for function in (middles_in, turns_in):
            for at, value in itertools.product(range(5), (None, True, False, "0", (), (0,), ((0, 1, 2),))):
                with self.assertRaises(Unfit):
                    function(*right[:at], value, *right[at + 1:])


if __name__ == "__main__":
    unittest.main()
