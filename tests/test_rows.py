"""[7]: ROWS of MOVES."""

import unittest

from movedchest.rows import (
    behind, first_met, how_often, is_row, middles_along, shapes_along, stands_along, tips_alone, turns_alone,
)
from movedchest.stands import moved
from tests.body import Body
from tests.drawn import ALL_FRONTS, ALL_MOVES, ALL_SHAPES, ALL_TIPS, ALL_TURNS, CHESTS, HOME, Draw

EVEN_SHAPES = [(0, 1, 2), (1, 2, 0), (2, 0, 1)]


def mixed_rows(draw, many, most=15):
    """So many ROWS, of tips, of turns and of both."""
    kinds = [ALL_TIPS, ALL_TURNS, ALL_MOVES]
    return [draw.row(draw.chance.randint(0, most), kinds[n % 3]) for n in range(many)]


class Kinds(unittest.TestCase):
    def test_is_row(self):
        for row in [(), tuple(ALL_MOVES)] + [(move,) for move in ALL_MOVES] + [(ALL_MOVES[3],) * 3000]:
            self.assertIs(is_row(row), True)
        for thing in ([], [("tip", 0)], (["tip", 0],), ("tip", 0), (("tip", 0), ("tip", 4)), (("tip", True),), (("tip",),),
                      (("turn", 0, 0),), (("turn", 0),), ((),), (None,), ((("tip", 0),),), None, True, 0, "row", (0, 1)):
            self.assertIs(is_row(thing), False, thing)


class Along(unittest.TestCase):
    def test_as_a_body_is_moved(self):
        draw = Draw(71)
        for stand, row in zip(draw.stands(40), mixed_rows(draw, 40)):
            for chest in CHESTS:
                bodies = [Body.on(chest, stand)]
                for move in row:
                    bodies.append(bodies[-1].moved(move))
                stands = stands_along(stand, row)
                self.assertEqual(len(stands), len(row) + 1)
                self.assertEqual([Body.on(chest, own).told() for own in stands], [body.told() for body in bodies])
                self.assertEqual(behind(stand, row), stands[-1])
                self.assertEqual(shapes_along(stand, row), tuple(body.shape() for body in bodies))
                self.assertEqual(middles_along(chest, stand, row), tuple(body.middle[:2] for body in bodies))

    def test_move_by_move(self):
        draw = Draw(72)
        for stand, row in zip(draw.stands(30), mixed_rows(draw, 30)):
            stands = stands_along(stand, row)
            self.assertEqual(stands[0], stand)
            for ahead, move, there in zip(stands, row, stands[1:]):
                self.assertEqual(there, moved(ahead, move))

    def test_no_moves(self):
        for stand in Draw(73).stands(9):
            self.assertEqual(behind(stand, ()), stand)
            self.assertEqual(stands_along(stand, ()), (stand,))
            self.assertEqual(shapes_along(stand, ()), (stand[0],))
            self.assertEqual(len(middles_along((2, 3, 5), stand, ())), 1)

    def test_long_rows(self):
        row = (("tip", 0),) * 2000
        self.assertEqual(behind(HOME, row), ((0, 1, 2), (2000, 0, 2000), (0, 0, 0), (1, 1, 1)))
        self.assertEqual(len(stands_along(HOME, row)), 2001)
        self.assertEqual(how_often(row + row), (4000, 0, 0, 0, 0, 0))

    def test_hangs_on_the_shape_alone(self):
        draw = Draw(74)
        for row in mixed_rows(draw, 12):
            for shape in ALL_SHAPES:
                told = set()
                for fronts in ALL_FRONTS:
                    _, xs, ys, _ = draw.stand(10 ** 12)
                    last, last_xs, last_ys, last_fronts = behind((shape, xs, ys, fronts), row)
                    more = [tuple(b - a for a, b in zip(*pair)) for pair in ((xs, last_xs), (ys, last_ys))]
                    told.add((last, more[0], more[1], tuple(a * b for a, b in zip(fronts, last_fronts))))
                self.assertEqual(len(told), 1)

    def test_turns_leave_what_stands(self):
        draw = Draw(75)
        for stand in draw.stands(20):
            shape, xs, ys, fronts = stand
            for last, last_xs, last_ys, last_fronts in stands_along(stand, draw.row(20, ALL_TURNS)):
                k = shape[2]
                self.assertEqual((last[2], last_xs[k], last_ys[k], last_fronts[k]), (k, xs[k], ys[k], fronts[k]))

    def test_shapes_alternate(self):
        draw = Draw(76)
        for stand, row in zip(draw.stands(20), mixed_rows(draw, 20)):
            kinds = [shape in EVEN_SHAPES for shape in shapes_along(stand, row)]
            self.assertEqual(kinds, [kinds[0] == (n % 2 == 0) for n in range(len(kinds))])

    def test_how_the_middle_changes(self):
        draw = Draw(77)
        for stand, row in zip(draw.stands(20), mixed_rows(draw, 20)):
            for chest in CHESTS:
                middles, shapes = middles_along(chest, stand, row), shapes_along(stand, row)
                for n, move in enumerate(row):
                    change = sorted(abs(b - a) for a, b in zip(middles[n], middles[n + 1]))
                    i, j, k = [chest[side] for side in shapes[n]]
                    if move[0] == "tip":
                        self.assertEqual(change, [0, (i if move[1] in (0, 2) else j) + k])
                    else:
                        self.assertEqual(change, sorted([i + j, abs(i - j)]))


class Told(unittest.TestCase):
    def test_tips_alone_turns_alone(self):
        self.assertIs(tips_alone(()), True)
        self.assertIs(turns_alone(()), True)
        for row in mixed_rows(Draw(78), 60):
            words = [move[0] for move in row]
            self.assertIs(tips_alone(row), "turn" not in words)
            self.assertIs(turns_alone(row), "tip" not in words)

    def test_how_often(self):
        self.assertEqual(how_often(()), (0,) * 6)
        for row in mixed_rows(Draw(79), 60):
            tips = [row.count(tip) for tip in ALL_TIPS]
            hands = [sum(row.count(("turn", corner, hand)) for corner in range(4)) for hand in (1, -1)]
            self.assertEqual(how_often(row), tuple(tips + hands))

    def test_first_met(self):
        draw = Draw(70)
        for stand, row in zip(draw.stands(30), mixed_rows(draw, 30)):
            stands = stands_along(stand, row)
            for goal in stands:
                least = min(n for n in range(len(row) + 1) if behind(stand, row[:n]) == goal)
                self.assertEqual(first_met(stand, row, goal), least)
            self.assertEqual(first_met(stand, row, stand), 0)
            shape, xs, ys, fronts = stands[-1]
            for goal in ((shape, (xs[0] + 99, 0, 0), ys, fronts), (shape, xs, ys, tuple(-front for front in fronts))):
                if goal not in stands:
                    self.assertIsNone(first_met(stand, row, goal))

    def test_first_met_takes_the_first_time(self):
        row = (("tip", 0), ("tip", 2)) * 3
        self.assertEqual(first_met(HOME, row, HOME), 0)
        self.assertEqual(first_met(HOME, row, behind(HOME, row[:1])), 1)
        self.assertIsNone(first_met(HOME, row, behind(HOME, (("tip", 1),))))


if __name__ == "__main__":
    unittest.main()
