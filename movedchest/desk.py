"""The desk: a CHEST moved by lines of text."""

from movedchest.barred import can_tip_to
from movedchest.errors import BadText, NothingDone
from movedchest.fewest import fewest_tips
from movedchest.shapes import fit_chest
from movedchest.signs import fit_text, word_of
from movedchest.slants import can_turn_to, fewest_turns
from movedchest.stands import HOME, middle_of, step_by
from movedchest.texts import move_of_words

QUESTIONS = ("middle", "shape", "fronts", "tips", "turns")
DONE = "done"
NEVER = "never"


def read_lines(text):
    """What each line tells, a MOVE or the word of a question; BadText(line) for the first that is neither."""
    found = []
    for line, row in enumerate(fit_text(text).split("\n")):
        told = row if row in QUESTIONS else move_of_words(row.split(" "))
        if told is None:
            raise BadText(line)
        found.append(told)
    return found


def in_words(numbers):
    """The number words of numbers, parted by blanks."""
    return " ".join([word_of(number) for number in numbers])


def answer_to(chest, stand, word):
    """The answer to a question."""
    if word == "middle":
        return in_words(middle_of(chest, stand))
    if word == "shape":
        return in_words(stand[0])
    if word == "fronts":
        return in_words(stand[3])
    if word == "tips":
        return word_of(fewest_tips(HOME, stand)) if can_tip_to(HOME, stand) else NEVER
    return word_of(fewest_turns(HOME, stand)) if can_turn_to(HOME, stand) else NEVER


class Desk:
    """A CHEST, HOME at the beginning.

    past and later are lists of pairs of the ROW of the MOVES of a say and the
    STAND behind it: of what could be taken back, the last one last, and of
    what was taken back and could be done once more, the next one last.
    """

    def __init__(self, chest):
        self.sides = fit_chest(chest)
        self.past = []
        self.later = []

    def __eq__(self, other):
        return isinstance(other, Desk) and self.sides == other.sides and self.stand() == other.stand()

    def say(self, text):
        """The tuple of the answers to the lines of text; BadText(line) ahead of all."""
        told = read_lines(text)
        here = self.stand()
        answers = []
        row = []
        for own in told:
            if own in QUESTIONS:
                answers.append(answer_to(self.sides, here, own))
            else:
                here = step_by(here, own)
                row.append(own)
                answers.append(DONE)
        if row:
            self.past.append((tuple(row), here))
            self.later = []
        return tuple(answers)

    def chest(self):
        """The CHEST."""
        return self.sides

    def stand(self):
        """The STAND now."""
        return self.past[-1][1] if self.past else HOME

    def row(self):
        """The ROW of all MOVES done and not taken back."""
        return tuple([move for row, _ in self.past for move in row])

    def undo(self):
        """Takes back the last say that did something; how many MOVES are left; NothingDone() if there is none."""
        if not self.past:
            raise NothingDone()
        self.later.append(self.past.pop())
        return len(self.row())

    def redo(self):
        """Does once more what undo took back last; how many MOVES there are then; NothingDone() if there is none."""
        if not self.later:
            raise NothingDone()
        self.past.append(self.later.pop())
        return len(self.row())

    def twin(self):
        """Another Desk like it, with all that could be taken back, and done once more."""
        other = Desk(self.sides)
        other.past = list(self.past)
        other.later = list(self.later)
        return other
