"""Words of a text, and number words."""

from movedchest.errors import BadText, Unfit
from movedchest.kinds import is_number, tupled

FIGURES = "0123456789"
WORD_SIGNS = "abcdefghijklmnopqrstuvwxyz0123456789-"
MOST_FIGURES = 12


def has_only(text, signs):
    """Whether text is not empty and each of its signs is one of signs."""
    return text != "" and all([sign in signs for sign in text])


def fit_text(text):
    """The text, if it is a string, else Unfit()."""
    if not isinstance(text, str):
        raise Unfit()
    return text


def words(text):
    """The WORDS of a text; BadText(line) for the first line with another sign."""
    found = []
    for line, row in enumerate(fit_text(text).split("\n")):
        told = row.partition("#")[0]
        for word in told.split(" "):
            if word == "":
                continue
            if not has_only(word, WORD_SIGNS):
                raise BadText(line)
            found.append((word, line))
    return found


def is_word_in_line(thing):
    """Whether thing is a pair of a word and the number of a line."""
    if not isinstance(thing, tuple) or len(thing) != 2:
        return False
    word, line = thing
    return isinstance(word, str) and has_only(word, WORD_SIGNS) and is_number(line) and line >= 0


def fit_words(pairs):
    """The WORDS as a tuple of tuples, else Unfit()."""
    own = tupled(pairs, 2)
    if not isinstance(own, tuple) or not all([is_word_in_line(pair) for pair in own]):
        raise Unfit()
    lines = [line for _, line in own]
    if lines != sorted(lines):
        raise Unfit()
    return own


def text_of(words):
    """The text that has each of the WORDS in its line."""
    pieces = []
    here = 0
    for number, (word, line) in enumerate(fit_words(words)):
        if line > here:
            pieces.append("\n" * (line - here))
        elif number > 0:
            pieces.append(" ")
        pieces.append(word)
        here = line
    return "".join(pieces) + "\n" if pieces else ""


def number_of(word):
    """The number of a number word, None if it is none."""
    figures = word.removeprefix("-")
    if len(figures) > MOST_FIGURES or not has_only(figures, FIGURES):
        return None
    number = int(word)
    # A needless 0 ahead, and the "-" of -0, are lost on the way back.
    return number if word_of(number) == word else None


def word_of(number):
    """The number word of a number by size below 10^12."""
    return str(number)
