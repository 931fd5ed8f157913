"""[23]: BOARDS, beside bodies turned in space and searches over squares."""

import itertools
import unittest

from movedchest.boards import (
    covered, far_on, fewest_on, fits, is_board, is_lying, is_plan_on, is_why_shut, lain, lying_of, moves_on, plan_on,
    reached_on, why_shut,
)
from movedchest.errors import CanNot, Unfit
from movedchest.stands import moved
from tests.body import Body
from tests.drawn import ALL_MOVES, ALL_SHAPES, HOME, Draw
from tests.floor import (
    CHESTS, MOVES_BY, body_of, covered_told, drawn_board, drawn_places, fewest_by_rounds, fits_told, lain_told,
    lying_of_body, steps_told,
)
from tests.search import walked

HOWS = ("tips", "turns", "both")
LYING = (0, 1, 2)
OPEN = (4, 3, ())


class Things(unittest.TestCase):
    def test_boards(self):
        for thing in ((1, 1, ()), (1, 1, ((0, 0),)), (400, 1, ()), (3, 2, ((0, 1), (1, 0), (2, 1))), (10 ** 6, 10 ** 6, ())):
            self.assertIs(is_board(thing), True)
            self.assertIs(is_board(list(thing)), False)
        for thing in ((1, 1), (1, 1, (), ()), (0, 1, ()), (1, 0, ()), (1, -1, ()), (True, 1, ()), (1, 1, []), (1, 1, None),
                      (1, 1, ([0, 0],)), (1, 1, ((1, 0),)), (1, 1, ((0, 1),)), (1, 1, ((0, -1),)), (1, 1, ((-1, 0),)),
                      (3, 2, ((1, 0), (0, 1))), (3, 2, ((1, 0), (1, 0))), (1, 1, ((0, False),)), (1, 1, (0, 0)), None,
                      True, "110", (), ((1, 1, ()),), (2, 2, ((0, 0, 0),)), (2, 2, ((0,),))):
            self.assertIs(is_board(thing), False, thing)

    def test_lyings(self):
        for shape in ALL_SHAPES:
            for base in ((0, 0), (-5, 3), (10 ** 9, 1)):
                self.assertIs(is_lying((shape, base)), True)
                self.assertIs(is_lying([shape, base]), False)
                self.assertIs(is_lying((list(shape), base)), False)
                self.assertIs(is_lying((shape, list(base))), False)
        for thing in ((LYING,), (LYING, (0, 0), ()), (LYING, (0,)), (LYING, (0, True)), (LYING, None), ((0, 1, 1), (0, 0)),
                      ((0, 0), LYING), None, True, "lying", (), (LYING, (0, 0, 0)), ((False, 1, 2), (0, 0))):
            self.assertIs(is_lying(thing), False, thing)


class Bodies(unittest.TestCase):
    def test_covered(self):
        draw = Draw(1101)
        for chest in CHESTS + [(5, 2, 3), (7, 1, 4)]:
            for shape in ALL_SHAPES:
                lying = shape, (draw.number(9), draw.number(9))
                told = covered(chest, lying)
                self.assertEqual(told, covered_told(chest, lying))
                self.assertEqual(told, tuple(sorted(set(told))))
                self.assertEqual(covered(list(chest), [list(shape), list(lying[1])]), told)

    def test_lain(self):
        draw = Draw(1102)
        for chest in CHESTS + [(5, 2, 3), (60, 7, 1)]:
            for shape, move in itertools.product(ALL_SHAPES, ALL_MOVES):
                lying = shape, (draw.number(9), draw.number(10 ** 6))
                self.assertEqual(lain(chest, lying, move), lain_told(chest, lying, move))

    def test_each_move_is_taken_back_by_one_of_its_kind(self):
        for chest in CHESTS + [(5, 2, 3)]:
            for shape, move in itertools.product(ALL_SHAPES, ALL_MOVES):
                there = lain(chest, (shape, (0, 0)), move)
                kind = [own for own in ALL_MOVES if own[0] == move[0]]
                self.assertIn((shape, (0, 0)), [lain(chest, there, own) for own in kind])

    def test_lying_of(self):
        """Beside bodies that are at HOME on a BASE, and beside lain, MOVE by MOVE."""
        draw = Draw(1103)
        for chest in CHESTS + [(5, 2, 3), (60, 7, 1)]:
            for _ in range(12):
                base = draw.number(9), draw.number(9)
                stand, lying, body = HOME, (LYING, base), body_of(chest, (LYING, base))
                self.assertEqual(lying_of(chest, base, HOME), lying)
                for move in draw.row(9):
                    stand, lying, body = moved(stand, move), lain(chest, lying, move), body.moved(move)
                    self.assertEqual(lying_of(chest, base, stand), lying)
                    self.assertEqual(lying, lying_of_body(body))

    def test_lying_of_stands_drawn(self):
        draw = Draw(1104)
        seen = {True: 0, False: 0}
        for stand in draw.stands(150):
            chest, base = draw.chance.choice(CHESTS + [(5, 2, 3)]), (draw.number(9), draw.number(9))
            body = Body.on(chest, stand)
            # HOME lies at base: its south-west corner, which is at the half sides 0 and 1, comes to be there.
            east, north, up = body.middle
            there = Body(chest, (east + chest[0] + 2 * base[0], north + chest[1] + 2 * base[1], up), body.faces)
            told = lying_of_body(there)
            seen[told is not None] += 1
            if told is None:
                with self.assertRaises(CanNot):
                    lying_of(chest, base, stand)
            else:
                self.assertEqual(lying_of(chest, base, stand), told)
        self.assertGreater(min(seen.values()), 20)

    def test_not_whole(self):
        for chest, xs, ys in (((1, 2, 2), (1, 0, 0), (0, 0, 0)), ((1, 2, 2), (0, 0, 0), (1, 0, 0)), ((1, 1, 1), (1, 0, 0), (1, 0, 0))):
            with self.assertRaises(CanNot):
                lying_of(chest, (0, 0), (LYING, xs, ys, (1, 1, 1)))
            with self.assertRaises(Unfit):
                lying_of(chest, (0, 0, 0), (LYING, xs, ys, (1, 1, 1)))

    def test_fits(self):
        draw = Draw(1105)
        seen = {True: 0, False: 0}
        for _ in range(200):
            board = drawn_board(draw, draw.chance.randint(1, 5), draw.chance.randint(1, 5), draw.chance.choice((0, 0, 1, 3)))
            chest = draw.chance.choice(CHESTS)
            lying = draw.chance.choice(ALL_SHAPES), (draw.chance.randint(-1, 4), draw.chance.randint(-1, 4))
            told = fits(board, chest, lying)
            self.assertIs(told, fits_told(board, chest, lying))
            seen[told] += 1
        self.assertGreater(min(seen.values()), 20)

    def test_fits_each_side(self):
        chest = (2, 1, 3)
        for x, y in itertools.product(range(-1, 4), repeat=2):
            self.assertIs(fits((4, 3, ()), chest, (LYING, (x, y))), 0 <= x <= 2 and 0 <= y <= 2)
            self.assertIs(fits((4, 3, ((2, 1),)), chest, (LYING, (x, y))),
                          0 <= x <= 2 and 0 <= y <= 2 and (x, y) not in ((1, 1), (2, 1)))
        # A wall in the midst of what is covered, none at the corners.
        self.assertIs(fits((3, 3, ((1, 1),)), (3, 3, 3), (LYING, (0, 0))), False)
        self.assertIs(fits((3, 3, ()), (3, 3, 3), (LYING, (0, 0))), True)


class Searched(unittest.TestCase):
    def test_moves(self):
        for board, chest, lying in drawn_places(1111, 60):
            for how in HOWS:
                expected = [move for move in sorted(MOVES_BY[how]) if fits_told(board, chest, lain_told(chest, lying, move))]
                self.assertEqual(moves_on(board, chest, lying, how), tuple(expected))

    def test_reached_far_and_fewest(self):
        draw = Draw(1112)
        shut = 0
        for board, chest, lying in drawn_places(1112, 36):
            for how in HOWS:
                steps = steps_told(board, chest, how)
                far = fewest_by_rounds(steps, lying)
                self.assertEqual(reached_on(board, chest, lying, how), tuple(sorted(far)))
                self.assertEqual(far_on(board, chest, lying, how), max(far.values()))
                for other in draw.chance.sample(sorted(steps), min(6, len(steps))):
                    args = board, chest, lying, other, how
                    if other in far:
                        self.assertEqual(fewest_on(*args), far[other])
                        # As fast back.
                        self.assertEqual(fewest_on(board, chest, other, lying, how), far[other])
                        self.check_plan(args, far[other])
                        with self.assertRaises(CanNot):
                            why_shut(*args)
                        self.assertIs(is_why_shut(*args, reached_on(board, chest, lying, how)), False)
                    else:
                        shut += 1
                        for function in (fewest_on, plan_on):
                            with self.assertRaises(CanNot):
                                function(*args)
                        self.assertIs(is_plan_on(*args, ()), False)
                        told = why_shut(*args)
                        self.assertTrue(lying in told and other not in told)
                        self.assertEqual(told, tuple(sorted(set(told))))
                        self.assertTrue(all(there in told for own in told for _, there in steps[own]))
                        self.assertIs(is_why_shut(*args, told), True)
        self.assertGreater(shut, 30)

    def check_plan(self, args, many):
        board, chest, lying, other, how = args
        row = plan_on(*args)
        self.assertEqual(len(row), many)
        here = lying
        for move in row:
            self.assertIn(move, MOVES_BY[how])
            here = lain_told(chest, here, move)
            self.assertTrue(fits_told(board, chest, here))
        self.assertEqual(here, other)
        self.assertIs(is_plan_on(*args, row), True)
        self.assertIs(is_plan_on(*args, list(row)), False)
        self.assertIs(is_plan_on(*args, row + (("tip", 0), ("tip", 2))), False)

    def test_lying_and_other_are_one(self):
        for board, chest, lying in drawn_places(1113, 20):
            for how in HOWS:
                args = board, chest, lying, lying, how
                self.assertEqual((fewest_on(*args), plan_on(*args)), (0, ()))
                self.assertIs(is_plan_on(*args, ()), True)
                self.assertIs(is_plan_on(*args, []), False)
                with self.assertRaises(CanNot):
                    why_shut(*args)
                self.assertIs(is_why_shut(*args, reached_on(board, chest, lying, how)), False)
                self.assertIs(is_why_shut(*args, ()), False)

    def test_is_plan_beside_rows(self):
        """All of at most two MOVES, many of three."""
        draw = Draw(1114)
        for board, chest, lying, other in (((4, 3, ()), (1, 2, 3), (LYING, (0, 0)), (LYING, (3, 1))),
                                           ((4, 3, ()), (1, 1, 1), (LYING, (0, 0)), ((2, 1, 0), (1, 0))),
                                           ((3, 2, ((1, 1),)), (1, 1, 2), (LYING, (0, 0)), (LYING, (2, 0))),
                                           ((4, 4, ((1, 0),)), (1, 1, 1), (LYING, (0, 0)), ((2, 0, 1), (1, 1)))):
            for how in HOWS:
                steps = steps_told(board, chest, how)
                far = fewest_by_rounds(steps, lying)
                for many in range(4):
                    rows = list(itertools.product(MOVES_BY[how] if many == 3 else ALL_MOVES, repeat=many))
                    for row in draw.chance.sample(rows, min(len(rows), 200)):
                        here = lying
                        for move in row:
                            here = dict(steps[here]).get(move) if here else None
                        self.assertIs(is_plan_on(board, chest, lying, other, how, row),
                                      here == other and far[other] == many)

    def test_what_is_no_plan(self):
        args = (4, 3, ()), (1, 2, 3), (LYING, (0, 0)), (LYING, (3, 1)), "turns"
        row = (("turn", 2, 1), ("turn", 1, -1))
        self.assertIs(is_plan_on(*args, row), True)
        for thing in (list(row), (list(row[0]), row[1]), (("turn", 2, True), row[1]), row[:1], row * 2, (), None, True,
                      "turn", row[0], (row,), row + (None,), row[::-1], (row[0], ("tip", 0))):
            self.assertIs(is_plan_on(*args, thing), False, thing)
        self.assertIs(is_plan_on(*args[:4], "both", row), True)
        self.assertIs(is_plan_on(*args[:4], "tips", row), False)


class Shut(unittest.TestCase):
    def test_unions_of_what_hangs_together(self):
        """Just the sets that take all or nothing of what can be come to from one another."""
        board, chest = (3, 2, ((1, 1),)), (1, 1, 2)
        for how in HOWS:
            steps = steps_told(board, chest, how)
            every = sorted(steps)
            parts = []
            for lying in every:
                own = tuple(sorted(fewest_by_rounds(steps, lying)))
                if own not in parts:
                    parts.append(own)
            draw = Draw(1121)
            for _ in range(80):
                lying, other = draw.chance.choice(every), draw.chance.choice(every)
                chosen = [own for part in parts if draw.chance.random() < 0.6 for own in part]
                if draw.chance.random() < 0.4 and chosen:
                    chosen.remove(draw.chance.choice(chosen))
                if draw.chance.random() < 0.2:
                    chosen.append(draw.chance.choice(every))
                thing = tuple(sorted(set(chosen)))
                told = (lying in thing and other not in thing
                        and all(there in thing for own in thing for _, there in steps[own]))
                self.assertIs(is_why_shut(board, chest, lying, other, how, thing), told)

    def test_what_is_none(self):
        board, chest = (3, 2, ((1, 1),)), (1, 1, 2)
        args = board, chest, (LYING, (0, 0)), (LYING, (2, 0)), "tips"
        told = why_shut(*args)
        self.assertIs(is_why_shut(*args, told), True)
        apart = ((0, 2, 1), (1, 0))
        for thing in (list(told), (list(told[0]),) + told[1:], told[::-1], told + told, told[:1], (), None, True, "set",
                      told[0], (told,), told + (None,), told + (((2, 1, 0), (7, 7)),), ((LYING, (0, False)),) + told[1:],
                      tuple(sorted(told + (((0, 1, 2), (5, 5)),))), tuple(sorted(told + (((1, 0, 2), (-1, 0)),))),
                      tuple(sorted(told + (apart,)))):
            self.assertIs(is_why_shut(*args, thing), False, thing)
        # With all else that can not be come to from other it is one, too.
        steps = steps_told(board, chest, "tips")
        rest = tuple(own for own in sorted(steps) if own not in fewest_by_rounds(steps, args[3]))
        self.assertGreater(len(rest), len(told))
        self.assertIs(is_why_shut(*args, rest), True)

    def test_other_alone(self):
        """Nowhere to go: the set of lying alone."""
        board = (3, 1, ((1, 0),))
        args = board, (1, 1, 1), (LYING, (0, 0)), (LYING, (2, 0)), "both"
        self.assertEqual(reached_on(*args[:3], "tips"), ((LYING, (0, 0)),))
        self.assertEqual(why_shut(*args[:4], "tips"), ((LYING, (0, 0)),))
        self.assertEqual(why_shut(*args), reached_on(*args[:3], "both"))


class Edges(unittest.TestCase):
    def test_one_square(self):
        board, cube = (1, 1, ()), (1, 1, 1)
        for shape in ALL_SHAPES:
            lying = shape, (0, 0)
            self.assertIs(fits(board, cube, lying), True)
            self.assertEqual(moves_on(board, cube, lying, "tips"), ())
            self.assertEqual((reached_on(board, cube, lying, "tips"), far_on(board, cube, lying, "tips")), ((lying,), 0))
            for other in ALL_SHAPES:
                if other != shape:
                    with self.assertRaises(CanNot):
                        plan_on(board, cube, lying, (other, (0, 0)), "tips")
                    self.assertEqual(why_shut(board, cube, lying, (other, (0, 0)), "tips"), (lying,))
            self.assertIs(fits(board, (1, 1, 2), lying), shape[2] == 2)

    def test_turns_of_a_cube_on_one_square(self):
        """Each goes off it."""
        self.assertEqual(moves_on((1, 1, ()), (1, 1, 1), (LYING, (0, 0)), "turns"), ())

    def test_all_squares_walls(self):
        board = (2, 2, ((0, 0), (0, 1), (1, 0), (1, 1)))
        lying = (LYING, (0, 0))
        self.assertIs(is_board(board), True)
        self.assertIs(fits(board, (1, 1, 1), lying), False)
        for how in HOWS:
            for function in (moves_on, reached_on, far_on):
                with self.assertRaises(Unfit):
                    function(board, (1, 1, 1), lying, how)

    def test_what_does_not_fit(self):
        """Unfit(), lying and other, also where one would not be come to, and whatever thing is."""
        board, chest = (3, 2, ((1, 1),)), (1, 1, 2)
        right, wrong = (LYING, (0, 0)), [(LYING, (1, 1)), (LYING, (3, 0)), (LYING, (-1, 0)), ((0, 2, 1), (1, 0))]
        for own, how in itertools.product(wrong, HOWS):
            self.assertIs(fits(board, chest, own), False)
            for function in (moves_on, reached_on, far_on):
                with self.assertRaises(Unfit):
                    function(board, chest, own, how)
            for function in (fewest_on, plan_on, why_shut):
                for pair in ((right, own), (own, right), (own, own)):
                    with self.assertRaises(Unfit):
                        function(board, chest, *pair, how)
            for function in (is_plan_on, is_why_shut):
                for pair in ((right, own), (own, right), (own, own)):
                    with self.assertRaises(Unfit):
                        function(board, chest, *pair, how, ())
        # These do not ask for it.
        for own in wrong:
            self.assertEqual(len(covered(chest, own)), chest[own[0][0]] * chest[own[0][1]])
            self.assertEqual(lain(chest, own, ("tip", 0)), lain_told(chest, own, ("tip", 0)))

    def test_400_squares(self):
        """A cube of side 1 comes by tips to each square with half of its SHAPES; by rows of few squares all the way."""
        cube, lying = (1, 1, 1), (LYING, (0, 0))
        told = reached_on((20, 20, ()), cube, lying, "tips")
        self.assertEqual(len(told), 1200)
        self.assertTrue(all((x + y) % 2 == 0 if shape in (LYING, (2, 0, 1), (1, 2, 0)) else (x + y) % 2
                            for shape, (x, y) in told))
        self.assertEqual(fewest_on((20, 20, ()), cube, lying, (LYING, (19, 19)), "tips"), 38)
        row = plan_on((400, 1, ()), cube, lying, ((2, 1, 0), (399, 0)), "tips")
        self.assertEqual(row, (("tip", 0),) * 399)
        self.assertIs(is_plan_on((400, 1, ()), cube, lying, ((2, 1, 0), (399, 0)), "tips", row), True)
        self.assertEqual(far_on((400, 1, ()), cube, lying, "tips"), 399)
        great = (20, 20, ())
        for chest in ((10, 10, 10), (3, 4, 5), (20, 20, 20)):
            told = reached_on(great, chest, lying, "both")
            self.assertTrue(all(fits_told(great, chest, own) for own in told))
        self.assertEqual(reached_on(great, (20, 20, 20), lying, "both"), (lying,))

    def test_far_ones_by_stands(self):
        """Where nothing is in the way, as STANDS tell it."""
        draw = Draw(1131)
        for chest in CHESTS:
            row = draw.row(5)
            there = lying_of(chest, (20, 20), walked(HOME, row))
            self.assertLessEqual(fewest_on((45, 45, ()), chest, (LYING, (20, 20)), there, "both"), 5)


class Wrong(unittest.TestCase):
    def test_kinds(self):
        right = OPEN, (1, 2, 3), (LYING, (0, 0)), "both"
        wrong = (None, True, "both ", (), (1,), (1, 2, 3, 4), ((LYING, (0, 0)),), 0)
        for function in (moves_on, reached_on, far_on):
            for at, value in itertools.product(range(4), wrong):
                with self.assertRaises(Unfit):
                    function(*right[:at], value, *right[at + 1:])
        right = right[:3] + (((LYING, (3, 1))), "both")
        for function in (fewest_on, plan_on, why_shut):
            for at, value in itertools.product(range(5), wrong):
                with self.assertRaises(Unfit):
                    function(*right[:at], value, *right[at + 1:])
        for function in (is_plan_on, is_why_shut):
            for at, value in itertools.product(range(5), wrong):
                with self.assertRaises(Unfit):
                    function(*right[:at], value, *right[at + 1:], ())

    def test_others(self):
        for args in (((1, 2), (LYING, (0, 0))), ((1, 2, 3), (LYING, (0,))), ((1, 2, 3), LYING), (None, (LYING, (0, 0)))):
            with self.assertRaises(Unfit):
                covered(*args)
            with self.assertRaises(Unfit):
                lain(*args, ("tip", 0))
            with self.assertRaises(Unfit):
                fits(OPEN, *args)
        for move in (("tip", 4), ("turn", 0), None, "tip", ("tip", True)):
            with self.assertRaises(Unfit):
                lain((1, 2, 3), (LYING, (0, 0)), move)
        for args in (((1, 2, 0), (0, 0), HOME), ((1, 2, 3), (0, True), HOME), ((1, 2, 3), (0, 0), HOME[:3])):
            with self.assertRaises(Unfit):
                lying_of(*args)


if __name__ == "__main__":
    unittest.main()
