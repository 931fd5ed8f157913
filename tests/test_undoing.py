"""[8]: undoing, shortening, putting together, swinging, putting behind."""

import unittest

from movedchest.errors import TooMany, Unfit
from movedchest.rows import behind
from movedchest.stands import is_stand, moved
from movedchest.undoing import (
    back_from, changed, contrary, is_short, joined, left_out, put_behind, put_in, repeated, shortened, stand_swung, swung,
    undone,
)
from tests.body import Body
from tests.drawn import ALL_FRONTS, ALL_MOVES, ALL_SHAPES, CHESTS, HOME, Draw
from tests.test_rows import mixed_rows

# Few MOVES, so that neighbours undo one another often.
FEW = [("tip", 0), ("tip", 2), ("turn", 2, 1), ("turn", 3, -1), ("turn", 2, -1), ("turn", 1, 1)]


class Undoing(unittest.TestCase):
    def test_contrary_undoes_from_everywhere(self):
        for shape in ALL_SHAPES:
            for fronts in ALL_FRONTS:
                stand = shape, (1, -2, 3), (0, 5, -7), fronts
                for move in ALL_MOVES:
                    there = moved(stand, move)
                    self.assertEqual([own for own in ALL_MOVES if moved(there, own) == stand], [contrary(move)])

    def test_contrary_twice(self):
        for move in ALL_MOVES:
            self.assertNotEqual(contrary(move), move)
            self.assertEqual(contrary(contrary(move)), move)

    def test_a_turn_about_the_same_corner(self):
        for chest in CHESTS:
            for corner in range(4):
                for hand in (1, -1):
                    body = Body.at_home(chest)
                    there = body.moved(("turn", corner, hand))
                    word, later, back = contrary(("turn", corner, hand))
                    self.assertEqual((word, back), ("turn", -hand))
                    self.assertEqual(there.corner_point(later), body.corner_point(corner))

    def test_undone_leads_back(self):
        draw = Draw(81)
        for row in mixed_rows(draw, 40):
            self.assertEqual(len(undone(row)), len(row))
            self.assertEqual(undone(undone(row)), row)
            for stand in draw.stands(5):
                self.assertEqual(behind(behind(stand, row), undone(row)), stand)
        self.assertEqual(undone(()), ())


class Shortening(unittest.TestCase):
    def neighbours(self, row):
        return [n for n in range(len(row) - 1) if row[n + 1] == contrary(row[n])]

    def test_in_whatever_order(self):
        draw = Draw(82)
        for n in range(150):
            row = draw.row(draw.chance.randint(0, 24), FEW if n % 2 else ALL_MOVES)
            short = shortened(row)
            for _ in range(4):
                left = row
                while self.neighbours(left):
                    at = draw.chance.choice(self.neighbours(left))
                    left = left[:at] + left[at + 2:]
                self.assertEqual(short, left)
            self.assertIs(is_short(row), self.neighbours(row) == [])
            self.assertIs(is_short(short), True)
            for stand in draw.stands(3):
                self.assertEqual(behind(stand, short), behind(stand, row))

    def test_all_taken_out(self):
        for row in mixed_rows(Draw(83), 20):
            self.assertEqual(shortened(row + undone(row)), ())
            self.assertEqual(shortened(undone(row) + row), ())
        self.assertEqual(shortened(()), ())
        self.assertIs(is_short(()), True)
        self.assertIs(is_short((("tip", 0),)), True)
        self.assertEqual(shortened((("tip", 0), ("tip", 2)) * 1000), ())
        self.assertEqual(shortened((("tip", 0),) * 1000 + (("tip", 2),) * 1000), ())

    def test_what_leads_back_otherwise_stays(self):
        for row in ((("turn", 0, 1),) * 4, (("turn", 0, 1), ("turn", 0, -1)), (("tip", 0), ("tip", 1), ("tip", 2))):
            self.assertEqual(shortened(row), row)
            self.assertIs(is_short(row), True)


class PuttingTogether(unittest.TestCase):
    def test_joined(self):
        rows = mixed_rows(Draw(84), 20) + [()]
        for row, other in zip(rows, rows[1:] + rows[:1]):
            self.assertEqual(joined(row, other), row + other)
        self.assertEqual(len(joined((("tip", 0),) * 2000, (("tip", 0),) * 2000)), 4000)

    def test_repeated(self):
        for row in mixed_rows(Draw(85), 20):
            self.assertEqual(repeated(row, 0), ())
            self.assertEqual(repeated(row, 1), row)
            self.assertEqual(repeated(row, -1), undone(row))
            self.assertEqual(repeated(row, 3), row + row + row)
            self.assertEqual(repeated(row, -2), undone(row) + undone(row))

    def test_repeated_up_to_2000(self):
        row = (("tip", 0), ("turn", 1, 1))
        self.assertEqual(repeated(row, 1000), row * 1000)
        self.assertEqual(repeated(row, -1000), undone(row) * 1000)
        self.assertEqual(repeated(row[:1] * 2000, 1), row[:1] * 2000)
        for own, number in ((row, 1001), (row, -1001), (row[:1], 2001), (row[:1], -2001), (row, 10 ** 6), (row, 10 ** 30),
                            (row[:1] * 1001, -2)):
            with self.assertRaises(TooMany):
                repeated(own, number)

    def test_repeated_nothing(self):
        for number in (0, 5, -5, 10 ** 6, -10 ** 6, 10 ** 30):
            self.assertEqual(repeated((), number), ())
        self.assertEqual(repeated((("tip", 0),) * 2000, 0), ())

    def test_places(self):
        row, move = (("tip", 0), ("tip", 1), ("turn", 0, 1)), ("turn", 3, -1)
        for place in range(3):
            own = list(row)
            own[place] = move
            self.assertEqual(changed(row, place, move), tuple(own))
            own = list(row)
            del own[place]
            self.assertEqual(left_out(row, place), tuple(own))
        for place in range(4):
            own = list(row)
            own.insert(place, move)
            self.assertEqual(put_in(row, place, move), tuple(own))
        self.assertEqual(put_in((), 0, move), (move,))
        self.assertEqual(left_out((move,), 0), ())

    def test_places_that_are_none(self):
        row, move = (("tip", 0), ("tip", 1), ("turn", 0, 1)), ("turn", 3, -1)
        for place in (-1, -3, 3, 4, 10 ** 12, True, False, None, "0", (0,)):
            with self.assertRaises(Unfit):
                changed(row, place, move)
            with self.assertRaises(Unfit):
                left_out(row, place)
            if place != 3:
                with self.assertRaises(Unfit):
                    put_in(row, place, move)
        for call in (lambda: changed((), 0, move), lambda: left_out((), 0), lambda: put_in((), 1, move)):
            with self.assertRaises(Unfit):
                call()


class Swinging(unittest.TestCase):
    def swung_body(self, body, swing):
        if swing >= 4:
            body = body.mirrored()
        for _ in range(swing % 4):
            body = body.left_about_beginning()
        return body

    def test_as_a_body(self):
        for stand in [HOME] + Draw(86).stands(40):
            for chest in CHESTS:
                for swing in range(8):
                    body = self.swung_body(Body.on(chest, stand), swing)
                    self.assertEqual(Body.on(chest, stand_swung(stand, swing)).told(), body.told())

    def test_moves_as_of_a_body(self):
        for stand in Draw(87).stands(10):
            for move in ALL_MOVES:
                for swing in range(8):
                    body = self.swung_body(Body.on((5, 2, 3), stand), swing)
                    later = self.swung_body(Body.on((5, 2, 3), stand).moved(move), swing)
                    (own,) = swung((move,), swing)
                    self.assertEqual(body.moved(own).told(), later.told())
                    self.assertEqual([other for other in ALL_MOVES if body.moved(other).told() == later.told()], [own])

    def test_swung_rows_lead_from_swung_stands_to_swung_stands(self):
        draw = Draw(88)
        for stand, row in zip(draw.stands(40), mixed_rows(draw, 40)):
            for swing in range(8):
                self.assertEqual(
                    behind(stand_swung(stand, swing), swung(row, swing)), stand_swung(behind(stand, row), swing)
                )

    def test_what_does_nothing(self):
        draw = Draw(89)
        for stand, row in zip(draw.stands(20), mixed_rows(draw, 20)):
            self.assertEqual((stand_swung(stand, 0), swung(row, 0)), (stand, row))
            for mirrored in range(4, 8):
                self.assertEqual(stand_swung(stand_swung(stand, mirrored), mirrored), stand)
                self.assertEqual(swung(swung(row, mirrored), mirrored), row)
            for quarters in range(1, 4):
                self.assertEqual(stand_swung(stand_swung(stand, quarters), 4 - quarters), stand)
                self.assertEqual(swung(swung(row, quarters), 4 - quarters), row)
            self.assertEqual(len({stand_swung(stand, swing) for swing in range(8)}), 8)
        self.assertEqual(swung((), 5), ())


class PuttingBehind(unittest.TestCase):
    def test_beside_behind(self):
        draw = Draw(801)
        for stand, row in zip(draw.stands(60), mixed_rows(draw, 60)):
            self.assertEqual(put_behind(stand, behind(HOME, row)), behind(stand, row))

    def test_as_it_is_told_for_stands_without_a_row(self):
        draw = Draw(802)
        for stand, other in zip(draw.stands(60), draw.stands(61)[1:]):
            shape, xs, ys, fronts = (list(part) for part in stand)
            for n in range(3):
                side = stand[0][n]
                xs[side] += other[1][n]
                ys[side] += other[2][n]
                fronts[side] *= other[3][n]
            for place in range(3):
                shape[place] = stand[0][other[0][place]]
            self.assertEqual(put_behind(stand, other), tuple(tuple(part) for part in (shape, xs, ys, fronts)))

    def test_either_two_first(self):
        draw = Draw(803)
        for _ in range(60):
            first, second, third = draw.stand(), draw.stand(10 ** 12), draw.stand()
            self.assertEqual(
                put_behind(put_behind(first, second), third), put_behind(first, put_behind(second, third))
            )

    def test_home_changes_nothing(self):
        for stand in Draw(804).stands(30):
            self.assertEqual(put_behind(stand, HOME), stand)
            self.assertEqual(put_behind(HOME, stand), stand)

    def test_back_from(self):
        self.assertEqual(back_from(HOME), HOME)
        for stand in Draw(805).stands(60):
            back = back_from(stand)
            self.assertTrue(is_stand(back))
            self.assertEqual(put_behind(stand, back), HOME)
            self.assertEqual(put_behind(back, stand), HOME)
            self.assertEqual(back_from(back), stand)

    def test_back_from_where_a_row_leads(self):
        for row in mixed_rows(Draw(806), 40):
            self.assertEqual(back_from(behind(HOME, row)), behind(HOME, undone(row)))


if __name__ == "__main__":
    unittest.main()
