"""[6]: STANDS and MOVES, beside a body in space."""

import unittest

from movedchest.shapes import is_shape
from movedchest.stands import (
    corners, face_below, height, home, is_move, is_stand, looks, lower_face, middle_of, moved, moves,
)
from tests.body import Body
from tests.drawn import ALL_FRONTS, ALL_MOVES, ALL_SHAPES, CHESTS, GREAT, HOME, Draw


class Kinds(unittest.TestCase):
    def test_is_stand(self):
        zero = (0, 0, 0)
        for shape in ALL_SHAPES:
            for fronts in ALL_FRONTS:
                self.assertIs(is_stand((shape, zero, (GREAT, -GREAT, 10 ** 40), fronts)), True)
        lying, ones = (0, 1, 2), (1, 1, 1)
        for thing in (
            None, True, 4, "stand", (), [], HOME[:3], HOME + (ones,), list(HOME), (list(lying), zero, zero, ones),
            (lying, [0, 0, 0], zero, ones), (lying, zero, [0, 0, 0], ones), (lying, zero, zero, [1, 1, 1]),
            ((0, 1, 1), zero, zero, ones), ((0, 1), zero, zero, ones), ((False, 1, 2), zero, zero, ones),
            (lying, (0, 0), zero, ones), (lying, (0, 0, 0, 0), zero, ones), (lying, zero, (0, None, 0), ones),
            (lying, zero, (0, True, 0), ones), (lying, zero, ("0", 0, 0), ones), (lying, zero, zero, (1, 1)),
            (lying, zero, zero, (1, 1, 0)), (lying, zero, zero, (1, 1, 2)), (lying, zero, zero, (1, -1, True)),
            (lying, zero, zero, (1, 1, 1, 1)), (lying, zero, zero, None), (HOME,), (lying, 0, 0, ones),
            (zero, zero, lying, ones), (None, zero, zero, ones), (lying, zero, zero, 1), (lying, zero, None, ones),
        ):
            self.assertIs(is_stand(thing), False, thing)

    def test_is_move(self):
        for move in ALL_MOVES:
            self.assertIs(is_move(move), True)
            self.assertIs(is_move(list(move)), False)
            self.assertIs(is_move((move,)), False)
        for thing in (
            None, True, 0, "tip", (), [], ("tip",), ("tip", 4), ("tip", -1), ("tip", True), ("tip", None),
            ("tip", "0"), ("tip", 0, 1), ("turn", 0), ("turn",), ("turn", 4, 1), ("turn", -1, 1), ("turn", 0, 0),
            ("turn", 0, 2), ("turn", 0, True), ("turn", False, 1), ("turn", 0, 1, 1), ("Tip", 0), (0, "tip"),
            ("slide", 0), (("tip",), 0), ("turn", 0, (1,)), ("tip", (0,)), ("tip", [0]), (["tip"], 0),
            ("turn", 0, None), ("turn", 0, "left"),
        ):
            self.assertIs(is_move(thing), False, thing)


class AsABody(unittest.TestCase):
    def check_alike(self, chest, stand, body):
        self.assertTrue(is_stand(stand))
        self.assertEqual(corners(chest, stand), body.corners())
        self.assertEqual(lower_face(chest, stand), body.lower_face())
        self.assertEqual(middle_of(chest, stand), body.middle[:2])
        self.assertEqual(height(chest, stand), body.height())
        self.assertEqual([looks(stand, side) for side in range(3)], [body.looks(side) for side in range(3)])
        self.assertEqual(face_below(stand), body.below())
        self.assertEqual((stand[0], stand[3]), (body.shape(), body.fronts()))

    def test_home(self):
        self.assertEqual(home(), HOME)
        for chest in CHESTS:
            self.check_alike(chest, home(), Body.at_home(chest))

    def test_every_move_from_every_shape_and_fronts(self):
        for shape in ALL_SHAPES:
            for fronts in ALL_FRONTS:
                stand = shape, (3, -4, 5), (-1, 7, 2), fronts
                for chest in CHESTS:
                    self.check_alike(chest, stand, Body.on(chest, stand))
                    for move in ALL_MOVES:
                        body = Body.on(chest, stand).moved(move)
                        self.check_alike(chest, moved(stand, move), body)
                        self.assertEqual(Body.on(chest, moved(stand, move)).told(), body.told())

    def test_rows_of_moves_from_home(self):
        draw = Draw(61)
        for chest in CHESTS:
            for _ in range(12):
                stand, body = home(), Body.at_home(chest)
                for move in draw.row(25):
                    stand, body = moved(stand, move), body.moved(move)
                    self.check_alike(chest, stand, body)

    def test_great_numbers(self):
        draw = Draw(62)
        for _ in range(60):
            stand, chest = draw.stand(GREAT), draw.chance.choice(CHESTS)
            for move in ALL_MOVES:
                self.check_alike(chest, moved(stand, move), Body.on(chest, stand).moved(move))

    def test_an_edge_or_a_corner_stays(self):
        draw = Draw(63)
        for stand in draw.stands(30):
            for chest in CHESTS:
                ahead = Body.on(chest, stand)
                for move in ALL_MOVES:
                    later = corners(chest, moved(stand, move))
                    stays = ahead.edge_of(move[1]) if move[0] == "tip" else [ahead.corner_point(move[1])]
                    for point in stays:
                        self.assertIn(point, later)

    def test_a_tip_moves_the_middle_by_the_sides_exchanged(self):
        draw = Draw(64)
        for stand in draw.stands(30):
            for chest in CHESTS:
                east, north = middle_of(chest, stand)
                i, j, k = stand[0]
                along, across = chest[i] + chest[k], chest[j] + chest[k]
                expected = [(east + along, north), (east, north + across), (east - along, north), (east, north - across)]
                self.assertEqual([middle_of(chest, moved(stand, ("tip", way))) for way in range(4)], expected)

    def test_corners_are_a_set_of_eight(self):
        for stand in Draw(65).stands(30):
            found = corners((5, 2, 3), stand)
            self.assertEqual(found, tuple(sorted(set(found))))
            self.assertEqual(len(found), 8)


class Moves(unittest.TestCase):
    def test_all_twelve_ascending(self):
        for stand in Draw(66).stands(30):
            found = moves(stand)
            self.assertEqual([move for move, _ in found], sorted(ALL_MOVES))
            self.assertEqual(found, [(move, moved(stand, move)) for move in sorted(ALL_MOVES)])
            self.assertEqual(found, sorted(found))

    def test_the_list_is_new(self):
        moves(HOME).clear()
        self.assertEqual(len(moves(HOME)), 12)

    def test_just_one_move_leads_back(self):
        for stand in Draw(67).stands(40):
            for _, there in moves(stand):
                self.assertEqual([back for _, back in moves(there)].count(stand), 1)

    def test_stands_behind_moves_are_such(self):
        for stand in Draw(68).stands(20):
            for _, there in moves(stand):
                self.assertTrue(is_stand(there) and is_shape(there[0]))


if __name__ == "__main__":
    unittest.main()
