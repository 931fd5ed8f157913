"""[14]: how many shortest ROWS there are, beside all of them listed."""

import itertools
import math
import unittest

from movedchest.counts import counts_between, stand_by
from movedchest.errors import CanNot, TooMany, Unfit
from movedchest.fewest import fewest_tips
from movedchest.slants import fewest_turns, stand_by_slants, turn_plan
from movedchest.undoing import undone
from movedchest.ways import (
    how_many_tip_rows, how_many_turn_rows, links_gone, tip_row_at, tip_row_number, turn_row_at, turn_row_number,
)
from tests.drawn import ALL_SHAPES, ALL_TIPS, ALL_TURNS, GREAT, HOME, Draw
from tests.search import all_shortest, counted_within, tips_within, turns_within, walked
from tests.tipping import faces_of, links_of

EAST, NORTH, WEST, SOUTH = ALL_TIPS
TIPS = (how_many_tip_rows, tip_row_at, tip_row_number)
TURNS = (how_many_turn_rows, turn_row_at, turn_row_number)


def beginnings(seed):
    """A STAND of each of the six SHAPES."""
    draw = Draw(seed)
    for shape in ALL_SHAPES:
        _, xs, ys, fronts = draw.stand(draw.chance.choice((9, GREAT)))
        yield shape, xs, ys, fronts


class Listed(unittest.TestCase):
    def check(self, functions, stand, goal, rows):
        """Each of all shortest ROWS has its place, there and back."""
        how_many, row_at, row_number = functions
        self.assertEqual(how_many(stand, goal), len(rows))
        self.assertEqual(how_many(goal, stand), len(rows))
        many = len(rows)
        for place in sorted({0, 1, many // 3, many // 2, many - 2, many - 1} & set(range(many))):
            self.assertEqual(row_at(stand, goal, place), rows[place])
            self.assertEqual(row_number(stand, goal, rows[place]), place)
            self.assertIsInstance(row_number(goal, stand, undone(rows[place])), int)
        for place in (len(rows), len(rows) + 1, 10 ** 30):
            with self.assertRaises(CanNot):
                row_at(stand, goal, place)

    def test_turns(self):
        draw = Draw(201)
        for stand in beginnings(201):
            near = turns_within(stand, 6)
            for goal in draw.chance.sample(sorted(near), 25):
                self.check(TURNS, stand, goal, all_shortest(stand, turns_within(goal, 6), ALL_TURNS))

    def test_tips(self):
        draw = Draw(202)
        for stand in beginnings(202):
            near = tips_within(stand, 8)
            for goal in draw.chance.sample(sorted(near), 14):
                rows = all_shortest(stand, tips_within(goal, 8), ALL_TIPS)
                self.check(TIPS, stand, goal, rows)
                often = {tuple(links_of(faces_of(stand[0]), [way for _, way in row]).count(n) for n in range(6))
                         for row in rows}
                self.assertEqual(links_gone(stand, goal), sorted(often))

    def test_every_place_of_some(self):
        for goal in ((HOME[0], (4, 0, 0), (0, 0, 0), HOME[3]), stand_by(HOME, HOME[0], (0, 0, 2, 0, 0, 2)),
                     stand_by(HOME, HOME[0], (2, 0, 0, 2, 0, 0)), stand_by(HOME, HOME[0], (1, 1, 1, 1, 1, 1))):
            rows = all_shortest(HOME, tips_within(goal, 10), ALL_TIPS)
            self.assertEqual([tip_row_at(HOME, goal, place) for place in range(len(rows))], rows)
            self.assertEqual([tip_row_number(HOME, goal, row) for row in rows], list(range(len(rows))))
        for slants in ((3, 1, 2, 0), (-2, 2, 2, 0), (0, 4, -1, 1), (1, 1, -1, 1)):
            goal = stand_by_slants(HOME, slants)
            rows = all_shortest(HOME, turns_within(goal, 6), ALL_TURNS)
            self.assertEqual([turn_row_at(HOME, goal, place) for place in range(len(rows))], rows)
            self.assertEqual([turn_row_number(HOME, goal, row) for row in rows], list(range(len(rows))))

    def test_fourteen_tips(self):
        """Over all STANDS half way: ROWS up to it times ROWS on from it."""
        for counts in ((2, 2, 2, 2, 2, 0), (3, 3, 3, 3, 1, 1), (0, 0, 10, 0, 0, 0), (2, 2, 2, -4, -2, 2),
                       (2, 0, 0, 6, 0, 0)):
            stand, goal = HOME, stand_by(HOME, HOME[0], counts)
            tips = fewest_tips(stand, goal)
            self.assertIn(tips, (10, 12, 14))
            near, far = [counted_within(own, ALL_TIPS, tips // 2) for own in (stand, goal)]
            rows = sum(near[own] * far[own] for own in near if own in far)
            many = how_many_tip_rows(stand, goal)
            self.assertEqual(many, rows)
            for place in (0, many // 2, many - 1):
                row = tip_row_at(stand, goal, place)
                self.assertEqual(walked(stand, row), goal)
                self.assertEqual(tip_row_number(stand, goal, row), place)
            with self.assertRaises(CanNot):
                tip_row_at(stand, goal, many)


class Turns(unittest.TestCase):
    def test_how_many_by_choices(self):
        draw = Draw(211)
        for stand in draw.stands(60):
            s_i, s_j = draw.number(300), draw.number(300)
            slants = s_i, s_i + 2 * draw.number(150), s_j, s_j + 2 * draw.number(150)
            goal = stand_by_slants(stand, slants)
            (b, a), (d, c) = sorted(map(abs, slants[:2])), sorted(map(abs, slants[2:]))
            told = math.comb(a + c, a) * math.comb(a, (a + b) // 2) * math.comb(c, (c + d) // 2)
            self.assertEqual(how_many_turn_rows(stand, goal), told)
            self.assertEqual(how_many_turn_rows(goal, stand), told)

    def test_2000_turns(self):
        draw = Draw(212)
        for slants in ((1000, 0, 2, -1000), (2000, 0, 0, 0), (-1, 1999, 1, 1), (600, -600, 1400, 10)):
            goal = stand_by_slants(HOME, slants)
            self.assertEqual(fewest_turns(HOME, goal), 2000)
            many = how_many_turn_rows(HOME, goal)
            last = min(many - 1, 10 ** 30)
            ahead = ()
            for place in (0, 1, 2, draw.chance.randint(3, last - 3), last - 1, last):
                row = turn_row_at(HOME, goal, place)
                self.assertEqual((len(row), walked(HOME, row)), (2000, goal))
                self.assertLess(ahead, row)
                self.assertEqual(turn_row_number(HOME, goal, row), place)
                ahead = row
            backward = undone(row)
            self.assertLess(turn_row_number(goal, HOME, backward), many)
            # The number of a ROW may be greater than what may be passed in.
            self.assertLess(turn_row_number(HOME, goal, turn_plan(HOME, goal)), many)

    def test_the_number_behind_the_last(self):
        goal = stand_by_slants(HOME, (3, 1, 0, 0))
        self.assertEqual(how_many_turn_rows(HOME, goal), 3)
        self.assertEqual(turn_row_number(HOME, goal, turn_row_at(HOME, goal, 2)), 2)
        for place in (3, 4, 10 ** 30):
            with self.assertRaises(CanNot):
                turn_row_at(HOME, goal, place)
        for place in (-1, 10 ** 30 + 1, True, None):
            with self.assertRaises(Unfit):
                turn_row_at(HOME, goal, place)

    def test_more_than_2000(self):
        for slants in ((2001, 1, 0, 0), (1001, 1, 1000, 2), (GREAT, GREAT, 0, 0)):
            goal = stand_by_slants(HOME, slants)
            with self.assertRaises(TooMany):
                how_many_turn_rows(HOME, goal)
            # Ahead of CanNot(): a number, a ROW that is none of them.
            for place in (0, 10 ** 30):
                with self.assertRaises(TooMany):
                    turn_row_at(HOME, goal, place)
            for row in ((), (EAST,), (("turn", 0, 1),)):
                with self.assertRaises(TooMany):
                    turn_row_number(HOME, goal, row)

    def test_rows_that_are_none_of_them(self):
        goal = stand_by_slants(HOME, (2, 0, 1, 1))
        rows = all_shortest(HOME, turns_within(goal, 3), ALL_TURNS)
        for row in itertools.product(ALL_TURNS, repeat=3):
            if row not in rows:
                with self.assertRaises(CanNot):
                    turn_row_number(HOME, goal, row)
        for row in ((), rows[0][:2], rows[0] + (("turn", 0, 1), ("turn", 1, -1)), (EAST, NORTH, EAST), (EAST,)):
            with self.assertRaises(CanNot):
                turn_row_number(HOME, goal, row)

    def test_none_come_to_it(self):
        for goal in (((2, 1, 0), (1, 0, 1), (0, 0, 0), (-1, 1, 1)),
                     (HOME[0], (4 * GREAT + 2, 0, 0), (0, 0, 0), HOME[3]),
                     HOME[:3] + ((1, 1, -1),)):
            for call in ((how_many_turn_rows, ()), (turn_row_at, (0,)), (turn_row_number, ((),))):
                with self.assertRaises(CanNot):
                    call[0](HOME, goal, *call[1])


class Tips(unittest.TestCase):
    def test_more_than_14(self):
        for counts in ((16, 0, 0, 0, 0, 0), (0, 0, 12, 0, 0, 0), (3, 3, 3, 3, 3, 1), (GREAT, 0, 0, 0, 0, 0)):
            goal = stand_by(HOME, HOME[0], counts)
            self.assertGreater(fewest_tips(HOME, goal), 14)
            with self.assertRaises(TooMany):
                how_many_tip_rows(HOME, goal)
            for place in (0, 10 ** 30):
                with self.assertRaises(TooMany):
                    tip_row_at(HOME, goal, place)
            for row in ((), (EAST,), (("turn", 0, 1),)):
                with self.assertRaises(TooMany):
                    tip_row_number(HOME, goal, row)
        self.assertEqual(how_many_tip_rows(HOME, stand_by(HOME, HOME[0], (14, 0, 0, 0, 0, 0))), 1)
        with self.assertRaises(TooMany):
            how_many_tip_rows(HOME, stand_by(HOME, (2, 1, 0), (15, 0, 0, 0, 0, 0)))
        self.assertEqual(how_many_tip_rows(HOME, stand_by(HOME, (2, 1, 0), (-13, 0, 0, 0, 0, 0))), 1)

    def test_links_gone_by_themselves(self):
        great = stand_by(HOME, HOME[0], (0, 0, GREAT, 0, 0, -GREAT))
        self.assertEqual(links_gone(HOME, great), [(0, 0, GREAT, 2, 2, GREAT), (2, 2, GREAT, 0, 0, GREAT)])
        every = stand_by(HOME, HOME[0], (1, -1, 3, 1, -1, 1))
        self.assertEqual(links_gone(HOME, every), [(1, 1, 3, 1, 1, 1)])
        for stand in beginnings(221):
            self.assertEqual(links_gone(stand, stand), [(0,) * 6])
            self.assertEqual((how_many_tip_rows(stand, stand), how_many_turn_rows(stand, stand)), (1, 1))
            self.assertEqual((tip_row_at(stand, stand, 0), turn_row_at(stand, stand, 0)), ((), ()))
            self.assertEqual((tip_row_number(stand, stand, ()), turn_row_number(stand, stand, ())), (0, 0))
            for row_at in (tip_row_at, turn_row_at):
                with self.assertRaises(CanNot):
                    row_at(stand, stand, 1)

    def test_signs_of_each_link(self):
        """Always with the COUNT's sign; over those of COUNT 0 once each way."""
        draw = Draw(222)
        for stand in draw.stands(30):
            goal = walked(stand, draw.tips(9))
            counts = counts_between(stand, goal)
            if fewest_tips(stand, goal) > 14:
                continue
            many = how_many_tip_rows(stand, goal)
            row = tip_row_at(stand, goal, draw.chance.randrange(many))
            steps = list(zip(links_of(faces_of(stand[0]), [way for _, way in row]),
                             [1 if way < 2 else -1 for _, way in row]))
            for link, count in enumerate(counts):
                own = sorted(sign for at, sign in steps if at == link)
                if count == 0:
                    self.assertIn(own, ([], [-1, 1]))
                else:
                    self.assertEqual(own, [1 if count > 0 else -1] * abs(count))

    def test_rows_that_are_none_of_them(self):
        goal = stand_by(HOME, HOME[0], (2, 0, 0, 0, 0, 2))
        rows = all_shortest(HOME, tips_within(goal, 4), ALL_TIPS)
        self.assertEqual(len(rows), 2)
        for row in itertools.product(ALL_TIPS, repeat=4):
            if row not in rows:
                with self.assertRaises(CanNot):
                    tip_row_number(HOME, goal, row)
        for row in ((), rows[0][:3], rows[0] + (EAST, WEST), (("turn", 0, 1),) * 4):
            with self.assertRaises(CanNot):
                tip_row_number(HOME, goal, row)

    def test_none_come_to_it(self):
        for goal in (HOME[:3] + ((1, 1, -1),), (HOME[0], (GREAT, 1, 0), (0, 0, 0), HOME[3]), ((2, 1, 0),) + HOME[1:]):
            for call in ((how_many_tip_rows, ()), (tip_row_at, (0,)), (tip_row_number, ((),)), (links_gone, ())):
                with self.assertRaises(CanNot):
                    call[0](HOME, goal, *call[1])
        with self.assertRaises(Unfit):
            tip_row_at(HOME, HOME[:3] + ((1, 1, -1),), -1)


if __name__ == "__main__":
    unittest.main()
