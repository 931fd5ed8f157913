"""[15]: ROWS alike, beside bodies of many CHESTS turned in space."""

import itertools
import unittest

from movedchest.alike import (
    alike_for, are_alike, can_exchange, chests_for, comes_home, comes_home_for, exchanged, exchanges, is_parting,
    parting_chest,
)
from movedchest.errors import CanNot, Unfit
from movedchest.undoing import undone
from tests.body import Body
from tests.drawn import ALL_MOVES, ALL_TIPS, ALL_TURNS, CHESTS, HOME, Draw
from tests.search import walked

SMALL_CHESTS = list(itertools.product((1, 2, 3), repeat=3))
TELLING = [(1, 1, 1), (2, 1, 1), (1, 2, 1), (1, 1, 2)]
EAST, NORTH, WEST, SOUTH = ALL_TIPS
# Ys is (4, -4, 0) behind it, all else HOME's.
ASIDE = (("turn", 0, 1), ("turn", 2, 1), ("turn", 1, -1), ("turn", 3, -1))


def body_behind(chest, row):
    """SHAPE, FRONTS and MIDDLE of a body that is so moved."""
    body = Body.at_home(chest)
    for move in row:
        body = body.moved(move)
    return body.shape(), body.fronts(), body.middle[:2]


def by_stand(most):
    """For each STAND that rows of at most so many MOVES lead HOME to: the list of these ROWS."""
    found = {}
    for many in range(most + 1):
        for row in itertools.product(ALL_MOVES, repeat=many):
            found.setdefault(walked(HOME, row), []).append(row)
    return found


def drawn_pairs(seed, many):
    """Pairs of ROWS, half of them alike: of tips, turns, both."""
    draw = Draw(seed)
    rows = [own for own in by_stand(3).values() if len(own) > 1]
    for number in range(many):
        moves = (ALL_TIPS, ALL_TURNS, ALL_MOVES)[number % 3]
        ahead, behind = draw.row(draw.chance.randint(0, 5), moves), draw.row(draw.chance.randint(0, 5), moves)
        one, other = draw.chance.sample(draw.chance.choice(rows), 2)
        yield ahead + one + behind, ahead + other + behind
        yield ahead + behind, draw.row(draw.chance.randint(0, 6), moves)


class Alike(unittest.TestCase):
    def test_beside_bodies_of_many_chests(self):
        seen = {True: 0, False: 0}
        for row, other in drawn_pairs(301, 60):
            told = all(body_behind(chest, row) == body_behind(chest, other) for chest in TELLING)
            seen[told] += 1
            self.assertIs(are_alike(row, other), told)
            self.assertIs(are_alike(other, row), told)
            for chest in CHESTS:
                self.assertIs(alike_for(chest, row, other), body_behind(chest, row) == body_behind(chest, other))
        self.assertTrue(min(seen.values()) > 30, seen)

    def test_exactly_if_one_stand(self):
        for row, other in drawn_pairs(302, 150):
            here, there = walked(HOME, row), walked(HOME, other)
            self.assertIs(are_alike(row, other), here == there)
            # SHAPE, xs and ys tell it: FRONTS then are the same.
            self.assertEqual(here == there, here[:3] == there[:3])

    def test_from_each_stand_and_with_more_moves(self):
        draw = Draw(303)
        for row, other in drawn_pairs(304, 60):
            alike = are_alike(row, other)
            for stand in draw.stands(4):
                self.assertEqual(walked(stand, row) == walked(stand, other), alike)
            ahead, behind = draw.row(3), draw.row(3)
            self.assertIs(are_alike(ahead + row + behind, ahead + other + behind), alike)

    def test_all_short_rows(self):
        for stand, rows in by_stand(2).items():
            for row in rows:
                self.assertIs(are_alike(row, rows[0]), True)
                self.assertIs(comes_home(row), stand == HOME)

    def test_shape_fronts_and_middle_each_by_itself(self):
        """A cube that differs from one at HOME in its SHAPE alone, its FRONTS alone, its MIDDLE alone."""
        for row, place in (((WEST, SOUTH, EAST, NORTH), 0), ((EAST, EAST, NORTH, WEST, WEST, SOUTH), 1),
                           ((EAST,) * 4, 2)):
            told = [a != b for a, b in zip(body_behind((1, 1, 1), row), body_behind((1, 1, 1), ()))]
            self.assertEqual(told, [own == place for own in range(3)])
            self.assertIs(alike_for((1, 1, 1), row, ()), False)
            self.assertIs(comes_home_for((1, 1, 1), row), False)
            self.assertIs(is_parting(row, (), (1, 1, 1)), True)
            self.assertNotIn((1, 1, 1), chests_for(row, (), 2))

    def test_no_chest_wherever_the_rows_lead(self):
        for row in ((EAST,), (EAST, EAST), (WEST, SOUTH, EAST, NORTH), ()):
            for chest in ((1, 1, 0), (1, 1), (1, 1, True), None, "111"):
                with self.assertRaises(Unfit):
                    alike_for(chest, row, ())
                with self.assertRaises(Unfit):
                    comes_home_for(chest, row)

    def test_tips_and_a_turn(self):
        """A turn to the left about the north-east corner is three tips."""
        self.assertIs(are_alike((NORTH, EAST, SOUTH), (("turn", 2, 1),)), True)
        self.assertIs(are_alike((NORTH, EAST, SOUTH), (("turn", 2, -1),)), False)
        self.assertIs(alike_for((5, 2, 3), (NORTH, EAST, SOUTH), (("turn", 2, 1),)), True)


class Parting(unittest.TestCase):
    def test_a_chest_that_parts(self):
        for row, other in drawn_pairs(311, 60):
            if are_alike(row, other):
                with self.assertRaises(CanNot):
                    parting_chest(row, other)
                for chest in CHESTS:
                    self.assertIs(is_parting(row, other, chest), False)
                continue
            chest = parting_chest(row, other)
            self.assertNotEqual(body_behind(chest, row), body_behind(chest, other))
            self.assertIs(is_parting(row, other, chest), True)
            self.assertTrue(any(is_parting(row, other, own) for own in TELLING))
            for own in CHESTS:
                self.assertIs(is_parting(row, other, own), body_behind(own, row) != body_behind(own, other))

    def test_not_each_chest_parts(self):
        self.assertEqual([is_parting(ASIDE, (), own) for own in TELLING], [False, True, True, False])
        self.assertEqual([is_parting((EAST, EAST), (), own) for own in TELLING], [True] * 4)

    def test_what_is_no_chest(self):
        for thing in ([3, 4, 5], (3, 4), (3, 4, 5, 6), (3, 4, 0), (3, True, 5), (True, 4, 5), (3, 4, None), "345",
                      None, True, 3, (), [], ((3, 4, 5),), (3, 4, "5"), (3, 4, (5,)), (3, 3, 5), (3, -4, 5)):
            self.assertIs(is_parting(ASIDE, (), thing), False, thing)
        self.assertIs(is_parting(ASIDE, (), (3, 4, 5)), True)
        # Whatever the bounds are.
        self.assertIs(is_parting(ASIDE, (), (10 ** 40, 1, 1)), True)
        self.assertIs(is_parting(ASIDE, (), (10 ** 40, 10 ** 40, 1)), False)
        with self.assertRaises(Unfit):
            is_parting(ASIDE, (("tip", 4),), None)

    def test_chests_for_beside_each_chest(self):
        for row, other in list(drawn_pairs(312, 12)) + [(ASIDE, ()), (ASIDE * 2, ()), (undone(ASIDE), ASIDE)]:
            told = [own for own in SMALL_CHESTS if body_behind(own, row) == body_behind(own, other)]
            self.assertEqual(chests_for(row, other, 3), told)
            self.assertEqual([own for own in SMALL_CHESTS if alike_for(own, row, other)], told)

    def test_most(self):
        self.assertEqual(chests_for(ASIDE, (), 1), [(1, 1, 1)])
        self.assertEqual(chests_for(ASIDE, (), 12), [(a, a, c) for a in range(1, 13) for c in range(1, 13)])
        self.assertEqual(len(chests_for((EAST,), (EAST,), 12)), 12 ** 3)
        self.assertEqual(chests_for((EAST,), (), 12), [])
        for most in (0, 13, -1, 10 ** 6):
            with self.assertRaises(CanNot):
                chests_for(ASIDE, (), most)
            with self.assertRaises(Unfit):
                chests_for(ASIDE, (("tip", 4),), most)
        for most in (None, True, "2", (2,), [2]):
            with self.assertRaises(Unfit):
                chests_for(ASIDE, (), most)


class Home(unittest.TestCase):
    def test_rows_and_back(self):
        draw = Draw(321)
        for moves in (ALL_TIPS, ALL_TURNS, ALL_MOVES):
            for _ in range(30):
                row = draw.row(draw.chance.randint(0, 12), moves)
                self.assertIs(comes_home(row + undone(row)), True)
                self.assertIs(comes_home(row), walked(HOME, row) == HOME)
                for chest in CHESTS:
                    self.assertIs(comes_home_for(chest, row), body_behind(chest, row) == body_behind(chest, ()))
                    self.assertIs(comes_home_for(chest, row + undone(row)), True)

    def test_for_some_chests_alone(self):
        self.assertIs(comes_home(ASIDE), False)
        for chest in SMALL_CHESTS:
            self.assertIs(comes_home_for(chest, ASIDE), chest[0] == chest[1])

    def test_shape_and_fronts_count(self):
        """A cube is where it was, but lies, or looks, otherwise."""
        about = (EAST, NORTH, WEST, SOUTH)
        self.assertEqual([own for own in body_behind((1, 1, 1), about) if own in body_behind((1, 1, 1), ())], [(0, 0)])
        self.assertIs(comes_home_for((1, 1, 1), about), False)
        self.assertIs(comes_home_for((1, 1, 1), about * 2), False)
        self.assertIs(comes_home_for((1, 1, 1), about * 3), True)
        self.assertIs(comes_home(about * 3), walked(HOME, about * 3) == HOME)

    def test_nothing_done(self):
        self.assertIs(comes_home(()), True)
        self.assertIs(are_alike((), ()), True)
        self.assertIs(comes_home_for((7, 8, 9), ()), True)

    def test_long_rows(self):
        row = (EAST, NORTH) * 500
        self.assertIs(comes_home(row + undone(row)), True)
        self.assertIs(are_alike((EAST, WEST) * 1000, ()), True)
        self.assertIs(are_alike((EAST,) * 2000, (EAST,) * 1998), False)


class Exchanges(unittest.TestCase):
    def test_place_by_place(self):
        draw = Draw(331)
        places = 0
        for number in range(90):
            row = draw.row(draw.chance.randint(0, 12), (ALL_TIPS, ALL_TURNS, ALL_MOVES)[number % 3])
            told = []
            for place in range(len(row) - 1):
                other = row[:place] + (row[place + 1], row[place]) + row[place + 2:]
                self.assertEqual(exchanged(row, place), other)
                alike = walked(HOME, other) == walked(HOME, row)
                self.assertIs(can_exchange(row, place), alike)
                self.assertIs(can_exchange(row, place), are_alike(row, other))
                told += [place] if alike else []
            self.assertEqual(exchanges(row), tuple(told))
            places += len(told)
        self.assertGreater(places, 100)

    def test_all_pairs_of_moves(self):
        for pair in itertools.product(ALL_MOVES, repeat=2):
            for ahead in ((), (EAST,), (NORTH, ("turn", 1, 1))):
                row = ahead + pair
                self.assertIs(can_exchange(row, len(ahead)), walked(HOME, row) == walked(HOME, ahead + pair[::-1]))

    def test_places_without_two_moves(self):
        for row, places in (((), (0, -1, 1)), ((EAST,), (0, -1, 1)), ((EAST, NORTH), (1, 2, -1, -2, 10 ** 6)),
                            ((EAST,) * 5, (4, 5, -1, -5))):
            for place in places:
                with self.assertRaises(CanNot):
                    exchanged(row, place)
                with self.assertRaises(CanNot):
                    can_exchange(row, place)
                with self.assertRaises(Unfit):
                    exchanged(row + (None,), place)
        self.assertEqual(exchanged((EAST,) * 4 + (NORTH,), 3), (EAST,) * 3 + (NORTH, EAST))
        self.assertEqual((exchanges(()), exchanges((EAST,)), exchanges((EAST, EAST))), ((), (), (0,)))
        for place in (None, True, False, "0", (0,), [0]):
            with self.assertRaises(Unfit):
                exchanged((EAST, NORTH), place)
            with self.assertRaises(Unfit):
                can_exchange((EAST, NORTH), place)

    def test_long_rows(self):
        self.assertEqual(exchanges((EAST,) * 2000), tuple(range(1999)))
        self.assertEqual(exchanges((EAST, NORTH) * 1000), ())
        self.assertEqual(exchanged((EAST,) * 1999 + (NORTH,), 1998), (EAST,) * 1998 + (NORTH, EAST))


if __name__ == "__main__":
    unittest.main()
