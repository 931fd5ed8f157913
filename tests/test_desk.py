"""[26]: the desk, beside the ROW of all MOVES done."""

import unittest

from movedchest.desk import Desk
from movedchest.errors import BadText, NothingDone, Unfit
from tests.body import Body
from tests.drawn import ALL_MOVES, ALL_TIPS, ALL_TURNS, HOME, Draw
from tests.search import all_within, walked
from tests.sides import middle_told
from tests.test_texts import ROWS

QUESTIONS = ("middle", "shape", "fronts", "tips", "turns")
METHODS = ("say", "chest", "stand", "row", "undo", "redo", "twin", "__init__", "__eq__")
WRONG = (None, True, "1 2 3", (), (1, 2), (1, 2, 3, 4), (1, 2, 0), (1, 2, True), ((1, 2, 3),), (1, "2", 3), 6)


def words_told(numbers):
    return " ".join(str(own) for own in numbers)


class Model:
    """Says one by one, told again from the beginning: nothing is kept but their MOVES."""

    tips = all_within(HOME, ALL_TIPS, 9)
    turns = all_within(HOME, ALL_TURNS, 12)

    def __init__(self, chest):
        self.sides, self.done, self.taken_back = chest, [], []

    def row(self):
        return tuple(move for own in self.done for move in own)

    def stand(self):
        return walked(HOME, self.row())

    def answer(self, line, row):
        here = walked(HOME, row)
        if line == "middle":
            return words_told(middle_told(self.sides, here))
        if line in ("shape", "fronts"):
            return words_told(here[0] if line == "shape" else here[3])
        return {"tips": self.tips, "turns": self.turns}[line].get(here, "never")

    def say(self, lines):
        answers, own = [], []
        for line in lines:
            moves = [move for move in ALL_MOVES if ROWS[move] == line]
            own += moves
            answers.append("done" if moves else self.answer(line, self.row() + tuple(own)))
        if own:
            self.done, self.taken_back = self.done + [own], []
        return tuple(str(own) for own in answers)

    def undo(self):
        if not self.done:
            return None
        self.taken_back.append(self.done.pop())
        return len(self.row())

    def redo(self):
        if not self.taken_back:
            return None
        self.done.append(self.taken_back.pop())
        return len(self.row())


def or_none(method):
    """What a method returns, None if there is nothing to be done."""
    try:
        return method()
    except NothingDone:
        return None


class Case(unittest.TestCase):
    def assert_bad(self, desk, text, line):
        ahead = desk.stand(), desk.row()
        with self.subTest(text=text):
            with self.assertRaises(BadText) as caught:
                desk.say(text)
            self.assertEqual(caught.exception.line, line)
            self.assertEqual((desk.stand(), desk.row()), ahead)


class Lines(Case):
    def test_each_move(self):
        for move, line in ROWS.items():
            desk = Desk((2, 1, 4))
            self.assertEqual(desk.say(line), ("done",))
            self.assertEqual((desk.row(), desk.stand()), ((move,), walked(HOME, (move,))))

    def test_each_question(self):
        desk = Desk((5, 2, 3))
        self.assertEqual([desk.say(line) for line in QUESTIONS], [("0 0",), ("0 1 2",), ("1 1 1",), ("0",), ("0",)])
        self.assertEqual((desk.row(), desk.stand()), ((), HOME))
        self.assertEqual(desk.say("tip west\nmiddle\nshape\nfronts\ntips\nturns"),
                         ("done", "-8 0", "2 1 0", "1 1 -1", "1", "never"))
        self.assertEqual(desk.say("turn sw left\nmiddle\ntips\nturns"), ("done",) + desk.say("middle\ntips\nturns"))

    def test_never(self):
        """Turns alone come to it, so tips do; a tip comes to what turns never do."""
        desk = Desk((1, 1, 1))
        self.assertEqual(desk.say("turn ne left\ntips\nturns"), ("done", "3", "1"))
        self.assertEqual(desk.say("tip east\ntip west\ntips\nturns"), ("done", "done", "3", "1"))
        self.assertEqual(desk.say("tip east\nturns"), ("done", "never"))

    def test_middle_beside_bodies(self):
        draw = Draw(1401)
        for _ in range(30):
            chest = tuple(draw.chance.randint(1, 60) for _ in range(3))
            desk, body, row = Desk(chest), Body.at_home(chest), draw.row(12)
            for move in row:
                body = body.moved(move)
            desk.say("\n".join(ROWS[move] for move in row))
            self.assertEqual(desk.say("middle\nshape\nfronts"),
                             (words_told(body.middle[:2]), words_told(body.shape()), words_told(body.fronts())))

    def test_lines_of_none(self):
        desk = Desk((2, 1, 4))
        desk.say("tip north")
        for line in ("", " ", "tip", "tip  east", " tip east", "tip east ", "tip up", "tip east east", "turn ne", "turn left ne",
                     "turn ne  left", "turn n left", "turn ne left ", "Tip east", "middle ", " middle", "middle middle",
                     "tip east # on", "#", "# a", "tips 1", "shapes", "front", "say", "undo", "redo", "0", "tip 0", "turn 2 1",
                     "tip_east", "tip-east", "tip east,", "tip\teast"):
            self.assert_bad(desk, line, 0)
            self.assert_bad(desk, "tip east\nshape\n" + line, 2)
            self.assert_bad(desk, "tip east\n" + line + "\ntip up\n", 1)
        self.assertEqual(desk.row(), (("tip", 1),))

    def test_line_breaks(self):
        """One at the end begins one more line, one at the beginning ends one."""
        desk = Desk((2, 1, 4))
        self.assert_bad(desk, "", 0)
        self.assert_bad(desk, "\n", 0)
        self.assert_bad(desk, "tip east\n", 1)
        self.assert_bad(desk, "\ntip east", 0)
        self.assert_bad(desk, "tip east\n\ntip west", 1)
        self.assertEqual(desk.row(), ())

    def test_many_lines(self):
        desk = Desk((60, 60, 60))
        self.assertEqual(desk.say("\n".join(["tip east"] * 2100 + ["tips", "middle"])), ("done",) * 2100 + ("2100", "252000 0"))
        self.assertEqual((len(desk.row()), desk.undo(), desk.redo()), (2100, 0, 2100))


class Sessions(Case):
    def test_beside_the_row_of_all_moves_done(self):
        draw = Draw(1411)
        for _ in range(40):
            chest = tuple(draw.chance.randint(1, 9) for _ in range(3))
            desk, model = Desk(chest), Model(chest)
            for _ in range(25):
                what = draw.chance.random()
                if what < 0.3:
                    self.assertEqual(or_none(desk.undo), model.undo())
                elif what < 0.5:
                    self.assertEqual(or_none(desk.redo), model.redo())
                elif what < 0.6:
                    self.assert_bad(desk, "tip east\ntip up", 1)
                else:
                    moves = [ROWS[move] for move in draw.row(draw.chance.randint(0, 2))]
                    asked = draw.chance.sample(QUESTIONS[:3], draw.chance.randint(0, 2))
                    lines = moves + asked or ["shape"]
                    draw.chance.shuffle(lines)
                    # A turn is three tips: so what the searches above come to.
                    tips = [1 if move[0] == "tip" else 3 for move in model.row()] + [3] * len(moves)
                    if sum(tips) <= 9:
                        lines += draw.chance.choice(([], ["tips"], ["turns"]))
                    self.assertEqual(desk.say("\n".join(lines)), model.say(lines))
                self.assertEqual((desk.row(), desk.stand(), desk.chest()), (model.row(), model.stand(), chest))

    def test_undo_and_redo_at_their_ends(self):
        desk = Desk((2, 1, 4))
        for method in (desk.undo, desk.redo):
            with self.assertRaises(NothingDone):
                method()
        desk.say("tip east\ntip north")
        desk.say("turn ne left")
        with self.assertRaises(NothingDone):
            desk.redo()
        self.assertEqual((desk.undo(), desk.undo()), (2, 0))
        with self.assertRaises(NothingDone):
            desk.undo()
        self.assertEqual((desk.stand(), desk.row()), (HOME, ()))
        self.assertEqual((desk.redo(), desk.redo()), (2, 3))
        with self.assertRaises(NothingDone):
            desk.redo()
        self.assertEqual(desk.row(), (("tip", 0), ("tip", 1), ("turn", 2, 1)))

    def test_a_say_that_did_nothing_counts_for_nothing(self):
        desk = Desk((2, 1, 4))
        desk.say("tip east")
        desk.say("middle\nshape")
        self.assertEqual(desk.undo(), 0)
        desk.say("tips\nturns\nfronts")
        self.assertEqual(desk.redo(), 1)
        desk.say("tip north")
        self.assertEqual((desk.undo(), desk.undo()), (1, 0))
        # A say with a MOVE ends what could be done once more.
        desk.say("shape\ntip west\nmiddle")
        with self.assertRaises(NothingDone):
            desk.redo()
        self.assertEqual((desk.undo(), desk.redo(), desk.row()), (0, 1, (("tip", 2),)))

    def test_a_say_that_is_refused_changes_nothing(self):
        desk = Desk((2, 1, 4))
        desk.say("tip east")
        desk.say("tip north")
        desk.undo()
        self.assert_bad(desk, "tip south\nturn ne  left", 1)
        self.assertEqual((desk.redo(), desk.row()), (2, (("tip", 0), ("tip", 1))))
        self.assert_bad(desk, "tip south\n", 1)
        self.assertEqual((desk.undo(), desk.undo(), desk.row()), (1, 0, ()))

    def test_moves_that_take_one_another_back_are_done(self):
        desk = Desk((2, 1, 4))
        desk.say("tip east\ntip west")
        self.assertEqual((desk.stand(), len(desk.row()), desk.undo()), (HOME, 2, 0))


class Twins(Case):
    def test_twin_goes_its_own_way(self):
        desk = Desk((2, 1, 4))
        desk.say("tip east")
        desk.say("tip north")
        desk.undo()
        other = desk.twin()
        self.assertIsNot(other, desk)
        self.assertIsInstance(other, Desk)
        self.assertEqual((other.chest(), other.stand(), other.row()), (desk.chest(), desk.stand(), desk.row()))
        self.assertEqual((other.redo(), other.undo(), other.undo()), (2, 1, 0))
        self.assertEqual((desk.row(), desk.stand()), ((("tip", 0),), walked(HOME, (("tip", 0),))))
        self.assertEqual(desk.redo(), 2)
        other.say("turn ne left")
        with self.assertRaises(NothingDone):
            other.redo()
        self.assertEqual((desk.undo(), desk.redo(), len(desk.row()), len(other.row())), (1, 2, 2, 1))
        self.assertEqual(desk.twin().twin().undo(), 1)

    def test_what_could_be_done_once_more_is_its_own(self):
        desk = Desk((2, 1, 4))
        desk.say("tip east")
        desk.undo()
        other = desk.twin()
        self.assertEqual((other.redo(), desk.redo()), (1, 1))
        self.assertEqual((desk.undo(), other.undo()), (0, 0))
        desk.say("tip north")
        self.assertEqual((other.redo(), other.row()), (1, (("tip", 0),)))

    def test_equal(self):
        one, other = Desk((2, 1, 4)), Desk([2, 1, 4])
        self.assertTrue(one == other and not one != other)
        one.say("tip north\ntip east\ntip south")
        self.assertTrue(one != other and not one == other)
        # Told otherwise, one STAND.
        other.say("turn ne left")
        self.assertTrue(one == other and not one != other)
        self.assertNotEqual(one.row(), other.row())
        other.undo()
        self.assertTrue(one != other)
        other.redo()
        self.assertTrue(one == other)
        self.assertTrue(one == one.twin())
        for own in (Desk((2, 1, 5)), Desk((1, 2, 4)), Desk((4, 1, 2))):
            self.assertTrue(own != Desk((2, 1, 4)) and not own == Desk((2, 1, 4)))
        for thing in (None, 0, (2, 1, 4), "desk", [one], HOME):
            self.assertTrue(one != thing and not one == thing)

    def test_what_it_is_given_and_what_it_gives(self):
        chest = [2, 1, 4]
        desk = Desk(chest)
        chest[0] = 60
        self.assertEqual(desk.chest(), (2, 1, 4))
        desk.say("tip east")
        for own in (desk.chest(), desk.stand(), desk.row(), desk.say("shape")):
            self.assertIsInstance(own, tuple)
        self.assertEqual(desk.row(), desk.row())


class Interface(Case):
    def test_methods_in_the_class_itself(self):
        for name in METHODS:
            self.assertIn(name, vars(Desk))
        self.assertEqual((Desk.__module__, Desk.__bases__), ("movedchest.desk", (object,)))

    def test_by_name(self):
        desk = Desk(chest=(2, 1, 4))
        self.assertEqual(desk.say(text="tip east\nshape"), ("done", "2 1 0"))

    def test_wrong_inputs(self):
        for chest in WRONG:
            with self.assertRaises(Unfit):
                Desk(chest)
        desk = Desk((2, 1, 4))
        for text in (None, True, 0, ("tip east",), ["tip east"], b"tip east"):
            with self.assertRaises(Unfit):
                desk.say(text)
        self.assertEqual(desk.row(), ())


if __name__ == "__main__":
    unittest.main()
