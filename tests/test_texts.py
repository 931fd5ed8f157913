"""[24]: texts of MOVES and SHEETS there and back, pictures beside bodies."""

import itertools
import unittest

from movedchest.boards import covered
from movedchest.errors import BadText, CanNot, Unfit
from movedchest.texts import (
    board_picture, is_sheet, lyings_in, move_text, read_move, read_picture, read_sheet, sheet_text,
)
from tests.drawn import ALL_MOVES, ALL_SHAPES, HOME, Draw
from tests.floor import CHESTS, all_fitting, covered_told, drawn_places, fits_told

TIPPED = ((2, 1, 0), (1, 0, 1), (0, 0, 0), (-1, 1, 1))
SHEET = ((1, 2, 3), TIPPED, (("tip", 0), ("turn", 0, 1), ("turn", 2, -1)))
CHEST_ROW, STAND_ROW = "chest 1 2 3", "stand 2 1 0 1 0 1 0 0 0 -1 1 1"
BOARD = (3, 2, ((1, 1),))
ROWS = {
    ("tip", 0): "tip east", ("tip", 1): "tip north", ("tip", 2): "tip west", ("tip", 3): "tip south",
    ("turn", 0, 1): "turn sw left", ("turn", 1, 1): "turn se left", ("turn", 2, 1): "turn ne left",
    ("turn", 3, 1): "turn nw left", ("turn", 0, -1): "turn sw right", ("turn", 1, -1): "turn se right",
    ("turn", 2, -1): "turn ne right", ("turn", 3, -1): "turn nw right",
}


class Told(unittest.TestCase):
    def assert_bad(self, function, text, line):
        with self.subTest(text=text):
            with self.assertRaises(BadText) as caught:
                function(text)
            self.assertEqual(caught.exception.line, line)


def drawn_sheet(draw, most):
    stand = draw.stand(most)
    return tuple(draw.chance.randint(1, 60) for _ in range(3)), stand, draw.row(draw.chance.randint(0, 12))


def spread_out(draw, text):
    """The text with more blanks, remarks and lines without words; a line is found at so many."""
    lines = []
    for line in text.split("\n")[:-1]:
        for _ in range(draw.chance.choice((0, 0, 1, 2))):
            lines.append(draw.chance.choice(("", "   ", "# chest A b.", "  #")))
        words = line.split(" ")
        lines.append("  " * draw.chance.randint(0, 1) + (" " * draw.chance.randint(1, 3)).join(words)
                     + draw.chance.choice(("", " ", "#x", " # tip up!")))
    return "\n".join(lines) + draw.chance.choice(("", "\n", "\n\n# end"))


class Moves(Told):
    def test_each_there_and_back(self):
        self.assertEqual(sorted(ROWS), sorted(ALL_MOVES))
        for move, row in ROWS.items():
            self.assertEqual(move_text(move), row)
            self.assertEqual(move_text(list(move)), row)
            self.assertEqual(read_move(row), move)
            for text in (row + "\n", "\n\n " + row, row.replace(" ", "   ") + " # " + row, "# tip\n" + row + "\n\n#\n"):
                self.assertEqual(read_move(text), move)

    def test_no_rows(self):
        for text in ("", "\n", "  ", "# tip east", "\n\n  # a\n"):
            self.assert_bad(read_move, text, 0)

    def test_rows_of_none(self):
        for row in ("tip", "tip up", "tip east east", "tips east", "east", "turn ne", "turn left ne", "turn n left", "turn ne up",
                    "turn ne left left", "tip 0", "turn 2 1", "chest 1 2 3", "-", "tip ne", "turn east left", "tip-east",
                    "0", "turn tip east"):
            self.assert_bad(read_move, row, 0)
            self.assert_bad(read_move, "\n# a\n" + row, 2)
            # The first that is none, also behind one that is.
            self.assert_bad(read_move, "tip east\n\n" + row, 2)
            self.assert_bad(read_move, "tip east\ntip west\n" + row + "\nturn", 2)

    def test_more_rows(self):
        self.assert_bad(read_move, "tip east\ntip west", 1)
        self.assert_bad(read_move, "\n\ntip east\n#\n\nturn ne left\ntip east", 5)
        # One line is one row.
        self.assert_bad(read_move, "tip east tip west", 0)

    def test_faults_of_signs_come_first(self):
        self.assert_bad(read_move, "tip up\nA", 1)
        self.assert_bad(read_move, "tip east\ntip west\n# B\ntip_east", 3)
        self.assert_bad(read_move, "Tip east", 0)
        self.assert_bad(read_move, "tip east.", 0)

    def test_wrong_inputs(self):
        for move in (None, True, "tip east", ("tip", 4), ("tip",), ("turn", 0), ("turn", 0, 0), ("turn", 0, True), (),
                     (("tip", 0),), ("tip", "east"), ("tip", (0,)), 0):
            with self.assertRaises(Unfit):
                move_text(move)
        for text in (None, True, 0, ("tip east",), ["tip", "east"], b"tip east"):
            for function in (read_move, read_sheet, read_picture):
                with self.assertRaises(Unfit):
                    function(text)


class Sheets(Told):
    def test_there_and_back(self):
        draw = Draw(1201)
        for most in (0, 9, 10 ** 12 - 1):
            for _ in range(25):
                sheet = drawn_sheet(draw, most)
                text = sheet_text(sheet)
                self.assertEqual(read_sheet(text), sheet)
                self.assertEqual(read_sheet(spread_out(draw, text)), sheet)
                self.assertIs(is_sheet(read_sheet(text)), True)
                self.assertEqual(sheet_text([sheet[0], list(sheet[1]), list(map(list, sheet[2]))]), text)

    def test_line_by_line(self):
        draw = Draw(1202)
        for _ in range(20):
            chest, stand, row = sheet = drawn_sheet(draw, 99)
            numbers = [own for part in stand for own in part]
            lines = ["chest " + " ".join(map(str, chest)), "stand " + " ".join(map(str, numbers))]
            lines += [ROWS[move] for move in row]
            self.assertEqual(sheet_text(sheet), "".join(line + "\n" for line in lines))

    def test_number_words_of_12_figures(self):
        great = 10 ** 12 - 1
        sheet = (60, 1, 1), ((0, 1, 2), (great, -great, 0), (-1, 0, 10 ** 11), (1, 1, -1)), ()
        text = "chest 60 1 1\nstand 0 1 2 999999999999 -999999999999 0 -1 0 100000000000 1 1 -1\n"
        self.assertEqual(sheet_text(sheet), text)
        self.assertEqual(read_sheet(text), sheet)
        # One figure more is no number word; told it is nevertheless.
        more = sheet_text(((60, 1, 1), ((0, 1, 2), (great + 1, 0, 0), (0, 0, 0), (1, 1, 1)), ()))
        self.assertEqual(more, "chest 60 1 1\nstand 0 1 2 1000000000000 0 0 0 0 0 1 1 1\n")
        self.assert_bad(read_sheet, more, 1)

    def test_2000_moves(self):
        sheet = (1, 2, 3), HOME, (("tip", 0), ("turn", 3, -1)) * 1000
        self.assertEqual(read_sheet(sheet_text(sheet)), sheet)

    def test_no_rows_and_the_row_chest_alone(self):
        for text in ("", "\n", "# chest 1 2 3", "  \n\n"):
            self.assert_bad(read_sheet, text, 0)
        self.assert_bad(read_sheet, CHEST_ROW, 0)
        self.assert_bad(read_sheet, "\n\n" + CHEST_ROW + "\n\n#\n", 2)

    def test_rows_not_as_told(self):
        both = CHEST_ROW + "\n" + STAND_ROW
        for row in ("chest 1 2", "chest 1 2 3 4", "chest 1 2 0", "chest 1 2 -3", "chest 1 2 03", "chest one 2 3", "chest",
                    "stand 1 2 3", "chests 1 2 3", "1 2 3", "tip east", STAND_ROW, "chest 1 2 3 stand", "chest 1 2 -0",
                    "chest 1 2 1000000000000"):
            self.assert_bad(read_sheet, row, 0)
            self.assert_bad(read_sheet, "\n" + row + "\n" + STAND_ROW, 1)
        for row in ("stand 2 1 0 1 0 1 0 0 0 -1 1", STAND_ROW + " 1", "stand 2 1 1 1 0 1 0 0 0 -1 1 1",
                    "stand 2 1 0 1 0 1 0 0 0 -1 1 0", "stand 2 1 0 1 0 1 0 0 0 -1 1 2", "stand", "chest 1 2 3", "tip east",
                    "stand 2 1 0 1 0 a 0 0 0 -1 1 1", "stand 2 1 0 1 0 01 0 0 0 -1 1 1", "stands 2 1 0 1 0 1 0 0 0 -1 1 1",
                    "stand 2 1 0 1000000000000 0 1 0 0 0 -1 1 1", "stand 2 1 3 1 0 1 0 0 0 -1 1 1"):
            self.assert_bad(read_sheet, CHEST_ROW + "\n" + row, 1)
            self.assert_bad(read_sheet, CHEST_ROW + "\n\n#\n" + row + "\ntip up", 3)
        for row in ("tip up", "tip", "turn ne", CHEST_ROW, STAND_ROW, "east", "tip east east", "turn left ne"):
            self.assert_bad(read_sheet, both + "\n" + row, 2)
            self.assert_bad(read_sheet, both + "\ntip east\n\n# a\n" + row + "\ntip up", 5)
            self.assertEqual(read_sheet(both + "\ntip east\n# " + row), ((1, 2, 3), TIPPED, (("tip", 0),)))

    def test_the_first_that_is_not(self):
        self.assert_bad(read_sheet, "chest 1 2 0\nstand\ntip", 0)
        self.assert_bad(read_sheet, CHEST_ROW + "\nstand\ntip", 1)
        # A fault of signs is ahead of all, in whichever line.
        self.assert_bad(read_sheet, "chest 1 2 0\nstand\ntip\n+", 3)
        self.assert_bad(read_sheet, CHEST_ROW + "\n" + STAND_ROW + "\ntip East\ntip up", 2)

    def test_what_is_a_sheet(self):
        self.assertIs(is_sheet(SHEET), True)
        self.assertIs(is_sheet(((1, 1, 1), HOME, ())), True)
        for thing in (list(SHEET), SHEET[:2], SHEET + ((),), (list(SHEET[0]),) + SHEET[1:], ((1, 2, 0),) + SHEET[1:],
                      ((1, 2, True),) + SHEET[1:], (SHEET[0], HOME[:3], ()), (SHEET[0], HOME, []), (SHEET[0], HOME, (["tip", 0],)),
                      (SHEET[0], list(HOME), ()), None, True, "sheet", (), (SHEET,), (HOME, SHEET[0], ())):
            self.assertIs(is_sheet(thing), False, thing)

    def test_wrong_inputs(self):
        for sheet in (None, True, "chest 1 2 3", (), SHEET[:2], SHEET + ((),), ((1, 2, 0),) + SHEET[1:], (SHEET,),
                      (SHEET[0], HOME[:3], ()), (SHEET[0], HOME, ("tip", 0)), (SHEET[0], HOME, (("tip", True),))):
            with self.assertRaises(Unfit):
                sheet_text(sheet)


def picture_told(board, squares):
    """Line by line, the northmost first."""
    wide, high, walls = board
    signs = {(x, y): "." for x in range(wide) for y in range(high)}
    signs.update({square: "#" for square in walls})
    signs.update({square: "o" for square in squares})
    return "".join("".join(signs[x, y] for x in range(wide)) + "\n" for y in reversed(range(high)))


class Pictures(Told):
    def test_there_and_back(self):
        for board, chest, lying in drawn_places(1211, 80):
            text = board_picture(board, chest, lying)
            self.assertEqual(text, picture_told(board, covered_told(chest, lying)))
            self.assertEqual(read_picture(text), (board, covered(chest, lying)))
            self.assertIn(lying, lyings_in(board, chest, covered(chest, lying)))

    def test_which_side_stands_is_not_told(self):
        self.assertEqual(board_picture(BOARD, (1, 1, 1), (HOME[0], (0, 0))), board_picture(BOARD, (1, 1, 1), ((2, 0, 1), (0, 0))))

    def test_what_does_not_fit(self):
        for lying in ((HOME[0], (1, 1)), (HOME[0], (3, 0)), (HOME[0], (0, -1)), ((0, 2, 1), (1, 0))):
            with self.assertRaises(Unfit):
                board_picture(BOARD, (1, 1, 2), lying)

    def test_one_square_and_400(self):
        self.assertEqual(board_picture((1, 1, ()), (1, 1, 1), (HOME[0], (0, 0))), "o\n")
        self.assertEqual(read_picture("o\n"), ((1, 1, ()), ((0, 0),)))
        board = 20, 20, tuple((0, y) for y in range(20))
        self.assertEqual(board_picture(board, (19, 19, 1), (HOME[0], (1, 1))),
                         ("#" + "o" * 19 + "\n") * 19 + "#" + "." * 19 + "\n")
        self.assertEqual(read_picture("#" * 400 + "\n" + "o" * 400 + "\n"),
                         ((400, 2, tuple((x, 1) for x in range(400))), tuple((x, 0) for x in range(400))))

    def test_squares_that_are_none_or_no_rectangle(self):
        for text in (".\n", "#\n", "..\n##\n", ".o\no.\n", "oo\no.\n", "o.o\n", "o\n.\no\n", "ooo\no#o\nooo\n", "oo.\n.oo\n",
                     ".o.\nooo\n.o.\n"):
            with self.subTest(text=text):
                with self.assertRaises(CanNot):
                    read_picture(text)
        for text, squares in (("oo\noo\n", ((0, 0), (0, 1), (1, 0), (1, 1))), (".o\n", ((1, 0),)),
                              ("o#\no.\n", ((0, 0), (0, 1)))):
            self.assertEqual(read_picture(text)[1], squares)

    def test_every_small_picture(self):
        """Of 2 by 3 squares: each with all signs; CanNot() just where they are no rectangle."""
        for signs in itertools.product(".#o", repeat=6):
            text = "".join(signs[:3]) + "\n" + "".join(signs[3:]) + "\n"
            at = {(x, y): signs[3 * (1 - y) + x] for x in range(3) for y in range(2)}
            squares = sorted(own for own in at if at[own] == "o")
            walls = tuple(sorted(own for own in at if at[own] == "#"))
            xs, ys = ({own[line] for own in squares} for line in (0, 1))
            whole = squares and (max(xs) - min(xs) + 1) * (max(ys) - min(ys) + 1) == len(squares)
            if whole:
                self.assertEqual(read_picture(text), ((3, 2, walls), tuple(squares)))
            else:
                with self.assertRaises(CanNot):
                    read_picture(text)

    def test_bad_texts(self):
        for text, line in (("", 0), ("\n", 0), ("o\n\n", 1), ("\no\n", 0), ("..\n.x\n", 1), ("x.\n..\n", 0), ("..\n...\n", 1),
                           ("..\n.\n", 1), ("o", 0), ("o\n.", 1), ("oo\n..\noo", 2), (".\n..", 1), ("..\n. \n", 1),
                           (" \n", 0), ("O\n", 0), ("0\n", 0), ("o\n.\n\n.\n", 2), ("o # a\n", 0), ("o\n.\n ", 2),
                           ("..\n.x", 1), ("oo\nox\no", 1), ("..\n..\n\n\n", 2)):
            self.assert_bad(read_picture, text, line)
        # Behind BadText() alone: squares that are no rectangle.
        self.assert_bad(read_picture, ".o\no.", 1)
        self.assert_bad(read_picture, ".o\no.\n.", 2)


class LyingsIn(unittest.TestCase):
    def test_beside_all_that_fit(self):
        draw = Draw(1221)
        for board, chest, lying in drawn_places(1221, 40):
            fitting = all_fitting(board, chest)
            for own in draw.chance.sample(fitting, min(4, len(fitting))):
                squares = covered_told(chest, own)
                expected = [each for each in fitting if covered_told(chest, each) == squares]
                self.assertEqual(lyings_in(board, chest, squares), tuple(expected))
                self.assertEqual(lyings_in(board, chest, list(map(list, squares))), tuple(expected))
                # One square more, one less: covered by none, or by others.
                for others in (squares[1:], squares + ((99, 99),)):
                    expected = [each for each in fitting if covered_told(chest, each) == others]
                    self.assertEqual(lyings_in(board, chest, others), tuple(expected))

    def test_that_do_not_fit(self):
        for chest in CHESTS:
            for shape in ALL_SHAPES:
                for base in itertools.product(range(-1, 4), repeat=2):
                    squares = covered_told(chest, (shape, base))
                    told = lyings_in(BOARD, chest, squares)
                    self.assertEqual((shape, base) in told, fits_told(BOARD, chest, (shape, base)))

    def test_no_squares(self):
        self.assertEqual(lyings_in(BOARD, (1, 1, 1), ()), ())
        self.assertEqual(lyings_in(BOARD, (1, 1, 1), []), ())

    def test_cubes_and_bars(self):
        self.assertEqual(lyings_in((1, 1, ()), (1, 1, 1), ((0, 0),)), tuple((own, (0, 0)) for own in sorted(ALL_SHAPES)))
        self.assertEqual(lyings_in(BOARD, (1, 1, 2), ((1, 1),)), ())

    def test_wrong_inputs(self):
        for squares in (None, True, 0, "00", (0, 0), ((0,),), ((0, 0, 0),), ((0, True),), ((1, 0), (0, 0)), ((0, 0), (0, 0)),
                        (((0, 0),),), (None,)):
            with self.assertRaises(Unfit):
                lyings_in(BOARD, (1, 1, 2), squares)
        for args in (((3, 2), (1, 1, 2), ()), (BOARD, (1, 1, 0), ()), (None, (1, 1, 2), ()), (BOARD, None, ())):
            with self.assertRaises(Unfit):
                lyings_in(*args)
        for args in (((3, 2), (1, 1, 2), (HOME[0], (0, 0))), (BOARD, (1, 1), (HOME[0], (0, 0))), (BOARD, (1, 1, 2), HOME[0]),
                     (BOARD, (1, 1, 2), (HOME[0], (0, True)))):
            with self.assertRaises(Unfit):
                board_picture(*args)


if __name__ == "__main__":
    unittest.main()
