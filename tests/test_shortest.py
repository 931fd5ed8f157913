"""[16]: shortest ROWS of the same kind, beside searches; ROWS without loops."""

import itertools
import unittest

from movedchest.alike import are_alike
from movedchest.errors import CanNot, Unfit
from movedchest.shortest import (
    fewest_like, first_loop, is_shortest, is_shortest_like, kind_of_row, shortest_like, too_many, without_loops,
)
from movedchest.undoing import undone
from tests.drawn import ALL_MOVES, ALL_TIPS, ALL_TURNS, HOME, Draw
from tests.search import all_shortest, fewest_from_both, tips_within, turns_within, walked
from tests.tipping import faces_of, links_of

EAST, NORTH, WEST, SOUTH = ALL_TIPS
LEFT = ("turn", 2, 1)
MIXED = [(EAST, LEFT), (LEFT, EAST), (EAST, EAST, LEFT, NORTH), (LEFT, LEFT, LEFT, SOUTH), (EAST, WEST, LEFT)]


def drawn_rows(seed, many, moves):
    draw = Draw(seed)
    return [draw.row(draw.chance.randint(1, 14), moves) for _ in range(many)]


def stands_of(row):
    return [walked(HOME, row[:made]) for made in range(len(row) + 1)]


def loop_by_trying(row):
    """The pair of the first loop; None without one."""
    stands = stands_of(row)
    for now in range(1, len(stands)):
        if stands[now] in stands[:now]:
            return stands.index(stands[now]), now
    return None


def loops_taken_out(row):
    while loop_by_trying(row) is not None:
        start, end = loop_by_trying(row)
        row = row[:start] + row[end:]
    return row


class Kinds(unittest.TestCase):
    def test_kinds(self):
        self.assertEqual(kind_of_row(()), "none")
        self.assertEqual(kind_of_row([]), "none")
        for row in [(own,) for own in ALL_TIPS] + drawn_rows(401, 10, ALL_TIPS):
            self.assertEqual(kind_of_row(row), "tips")
        for row in [(own,) for own in ALL_TURNS] + drawn_rows(402, 10, ALL_TURNS):
            self.assertEqual(kind_of_row(row), "turns")
        for row in MIXED:
            self.assertEqual(kind_of_row(row), "both")
        with self.assertRaises(Unfit):
            kind_of_row(("tip", 0))


class BesideSearch(unittest.TestCase):
    def check(self, rows, within, reach):
        near = within(HOME, reach)
        for row in rows:
            goal = walked(HOME, row)
            fewest = fewest_from_both(near, within(goal, reach))
            self.assertEqual(fewest_like(row), fewest)
            self.assertEqual(fewest % 2, len(row) % 2)
            self.assertEqual(too_many(row), len(row) - fewest)
            self.assertIs(is_shortest(row), len(row) == fewest)
            short = shortest_like(row)
            self.assertEqual((len(short), walked(HOME, short)), (fewest, goal))
            self.assertIs(is_shortest_like(row, short), True)
            self.assertIs(is_shortest(short), True)
            self.assertTrue(set(kind_of_row(own) for own in (row, short)) <= {kind_of_row(row), "none"})
            self.assertIs(is_shortest_like(row, row), len(row) == fewest)

    def test_tips(self):
        self.check(drawn_rows(411, 60, ALL_TIPS), tips_within, 7)

    def test_turns(self):
        self.check(drawn_rows(412, 30, ALL_TURNS), turns_within, 7)

    def test_all_short_rows(self):
        self.check(itertools.product(ALL_TIPS, repeat=3), tips_within, 2)
        self.check(itertools.product(ALL_TURNS, repeat=2), turns_within, 1)

    def test_is_shortest_like_beside_all_rows(self):
        for row in drawn_rows(413, 12, ALL_TIPS):
            row = row[:6]
            rows = all_shortest(HOME, tips_within(walked(HOME, row), 6), ALL_TIPS)
            if len(rows[0]) <= 5:
                for own in itertools.product(ALL_TIPS, repeat=len(rows[0])):
                    self.assertIs(is_shortest_like(row, own), own in rows)
        for row in ((LEFT, LEFT, ("turn", 0, 1)), (("turn", 0, -1), ("turn", 1, 1), ("turn", 3, 1))):
            rows = all_shortest(HOME, turns_within(walked(HOME, row), 3), ALL_TURNS)
            for many in (1, 3):
                for own in itertools.product(ALL_TURNS, repeat=many):
                    self.assertIs(is_shortest_like(row, own), own in rows)


class Edges(unittest.TestCase):
    def test_no_moves(self):
        self.assertEqual((fewest_like(()), shortest_like(()), too_many(()), is_shortest(())), (0, (), 0, True))
        self.assertIs(is_shortest_like((), ()), True)
        for thing in ([], None, True, 0, "", (EAST, WEST), (LEFT,) * 8, ((),)):
            self.assertIs(is_shortest_like((), thing), False, thing)

    def test_rows_alike_to_none(self):
        draw = Draw(421)
        for moves in (ALL_TIPS, ALL_TURNS):
            for _ in range(20):
                row = draw.row(draw.chance.randint(1, 6), moves)
                there_and_back = row + undone(row)
                self.assertEqual((fewest_like(there_and_back), shortest_like(there_and_back)), (0, ()))
                self.assertEqual((too_many(there_and_back), is_shortest(there_and_back)), (2 * len(row), False))
                self.assertIs(is_shortest_like(there_and_back, ()), True)
                self.assertIs(is_shortest_like(there_and_back, []), False)

    def test_tips_home_go_as_often_either_way(self):
        for many in (2, 4, 6):
            for row in itertools.product(ALL_TIPS, repeat=many):
                if walked(HOME, row) == HOME:
                    steps = list(zip(links_of(faces_of(HOME[0]), [way for _, way in row]), [way < 2 for _, way in row]))
                    for link in range(6):
                        self.assertEqual(steps.count((link, True)), steps.count((link, False)))

    def test_mixed(self):
        for row in MIXED:
            for function in (fewest_like, shortest_like, is_shortest, too_many):
                with self.assertRaises(CanNot):
                    function(row)
            for thing in ((), row, None, (EAST,)):
                with self.assertRaises(CanNot):
                    is_shortest_like(row, thing)
            for function in (fewest_like, shortest_like, is_shortest, too_many, first_loop, without_loops):
                with self.assertRaises(Unfit):
                    function(row + (None,))

    def test_of_the_same_kind_alone(self):
        """Three tips, one turn: neither is a shortest one like the other, though they are alike."""
        tips, turn = (NORTH, EAST, SOUTH), (LEFT,)
        self.assertIs(are_alike(tips, turn), True)
        self.assertEqual((fewest_like(tips), fewest_like(turn)), (3, 1))
        self.assertIs(is_shortest_like(tips, turn), False)
        self.assertIs(is_shortest_like(turn, tips), False)
        self.assertIs(is_shortest_like(tips, tips), True)
        self.assertIs(is_shortest_like(turn, turn), True)
        # As long as a shortest one, alike, but of both kinds or of the other.
        east_twice = (("turn", 2, 1), ("turn", 3, 1), ("turn", 1, 1), ("turn", 2, 1))
        self.assertEqual(fewest_like(east_twice), 4)
        for own in itertools.product(ALL_MOVES, repeat=3):
            if walked(HOME, own) == walked(HOME, tips):
                self.assertIs(is_shortest_like(tips, own), kind_of_row(own) == "tips")

    def test_what_is_no_row(self):
        for thing in ([EAST, EAST], (["tip", 0], EAST), (("tip", False), EAST), (EAST,), (EAST,) * 4, None, True,
                      "tip", (EAST, None), (), ("tip", 0), ((EAST, EAST),), (NORTH, NORTH)):
            self.assertIs(is_shortest_like((EAST, WEST, EAST, EAST), thing), False, thing)
        self.assertIs(is_shortest_like((EAST, WEST, EAST, EAST), (EAST, EAST)), True)

    def test_long_rows(self):
        """2,000 MOVES, and somewhat more."""
        for many in (2000, 2001, 2100):
            for row in ((EAST,) * many, (LEFT,) * many):
                self.assertEqual((fewest_like(row), too_many(row), is_shortest(row)), (many, 0, True))
                short = shortest_like(row)
                self.assertEqual((len(short), walked(HOME, short)), (many, walked(HOME, row)))
                self.assertIs(is_shortest_like(row, row), True)
        row = (EAST, NORTH, WEST, SOUTH) * 500
        short = shortest_like(row)
        self.assertEqual((walked(HOME, short), len(short) % 2), (walked(HOME, row), 0))
        self.assertEqual(too_many(row), 2000 - len(short))


class Loops(unittest.TestCase):
    def test_beside_loops_taken_out_one_by_one(self):
        with_loops = 0
        draw = Draw(431)
        for number in range(240):
            moves = (ALL_TIPS, ALL_TURNS, ALL_MOVES, (EAST, WEST, LEFT, ("turn", 3, -1)))[number % 4]
            row = draw.row(draw.chance.randint(0, 16), moves)
            loop = loop_by_trying(row)
            if loop is None:
                with self.assertRaises(CanNot):
                    first_loop(row)
            else:
                with_loops += 1
                self.assertEqual(first_loop(row), loop)
            short = without_loops(row)
            self.assertEqual(short, loops_taken_out(row))
            self.assertEqual(walked(HOME, short), walked(HOME, row))
            self.assertIs(are_alike(short, row), True)
            self.assertEqual(len(set(stands_of(short))), len(short) + 1)
            with self.assertRaises(CanNot):
                first_loop(short)
        self.assertGreater(with_loops, 80)

    def test_a_loop_that_begins_at_home(self):
        self.assertEqual(first_loop((EAST, WEST)), (0, 2))
        self.assertEqual(first_loop((EAST, WEST, EAST, WEST)), (0, 2))
        self.assertEqual(first_loop((LEFT, ("turn", 3, -1), EAST)), (0, 2))
        self.assertEqual((without_loops((EAST, WEST)), without_loops((EAST, WEST, NORTH))), ((), (NORTH,)))

    def test_several_loops(self):
        row = (EAST, WEST, NORTH, EAST, WEST, SOUTH, EAST)
        self.assertEqual((first_loop(row), without_loops(row)), ((0, 2), (EAST,)))
        row = (NORTH, EAST, EAST, WEST, NORTH, SOUTH, NORTH, SOUTH, EAST)
        self.assertEqual((first_loop(row), without_loops(row)), ((2, 4), (NORTH, EAST, EAST)))
        row = (EAST, NORTH) + undone((EAST, NORTH)) + (EAST, NORTH) + undone((EAST, NORTH))
        self.assertEqual((first_loop(row), without_loops(row)), ((1, 3), ()))
        # A STAND that lies in a loop that is taken out is come to again, behind it.
        row = (EAST, NORTH, SOUTH, WEST, NORTH, SOUTH, EAST, NORTH, EAST)
        self.assertEqual(without_loops(row), (EAST, NORTH, EAST))

    def test_none(self):
        for row in ((), (EAST,), (EAST, EAST, EAST), (EAST, NORTH, WEST, SOUTH)):
            with self.assertRaises(CanNot):
                first_loop(row)
            self.assertEqual(without_loops(row), row)

    def test_long_rows(self):
        self.assertEqual(without_loops((EAST, WEST) * 1000), ())
        self.assertEqual(without_loops((EAST,) * 1000 + (WEST,) * 999), (EAST,))
        self.assertEqual(first_loop((EAST,) * 1000 + (WEST,) * 1000), (999, 1001))
        self.assertEqual(without_loops((EAST,) * 2000), (EAST,) * 2000)


if __name__ == "__main__":
    unittest.main()
