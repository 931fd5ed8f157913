"""Texts of MOVES and SHEETS, pictures of BOARDS."""

from movedchest.boards import are_bases, fit_board, fit_lying, fits, squares_of
from movedchest.errors import BadText, CanNot, Unfit
from movedchest.kinds import tupled
from movedchest.rows import is_row
from movedchest.shapes import RING, fit_chest, is_chest
from movedchest.signs import fit_text, number_of, word_of, words
from movedchest.stands import fit_move, is_stand, is_tip

WAY_WORDS = ("east", "north", "west", "south")
CORNER_WORDS = ("sw", "se", "ne", "nw")
HAND_WORDS = ("left", "right")
HANDS = (1, -1)
WALL = "#"
CHEST = "o"
EMPTY = "."


def words_of_move(move):
    """The list of the words of a MOVE."""
    if is_tip(move):
        return ["tip", WAY_WORDS[move[1]]]
    return ["turn", CORNER_WORDS[move[1]], HAND_WORDS[HANDS.index(move[2])]]


def move_of_words(row):
    """The MOVE that a list of words tells, None if it tells none."""
    if len(row) == 2 and row[0] == "tip" and row[1] in WAY_WORDS:
        return "tip", WAY_WORDS.index(row[1])
    if len(row) == 3 and row[0] == "turn" and row[1] in CORNER_WORDS and row[2] in HAND_WORDS:
        return "turn", CORNER_WORDS.index(row[1]), HANDS[HAND_WORDS.index(row[2])]
    return None


def move_text(move):
    """The row of a MOVE."""
    return " ".join(words_of_move(fit_move(move)))


def rows_of(text):
    """The list of the pairs of a line that has words and the list of these; BadText(line)."""
    rows = []
    for word, line in words(text):
        if rows == [] or rows[-1][0] != line:
            rows.append((line, []))
        rows[-1][1].append(word)
    return rows


def read_moves(rows):
    """The ROW of the MOVES that the pairs of rows_of tell; BadText(line) of the first that tells none."""
    found = []
    for line, row in rows:
        move = move_of_words(row)
        if move is None:
            raise BadText(line)
        found.append(move)
    return tuple(found)


def read_move(text):
    """The MOVE of a text of one row; BadText(line)."""
    rows = rows_of(text)
    if rows == []:
        raise BadText(0)
    found = read_moves(rows)
    if len(rows) > 1:
        raise BadText(rows[1][0])
    return found[0]


def is_sheet(thing):
    """Whether thing is a SHEET."""
    if not isinstance(thing, tuple) or len(thing) != 3:
        return False
    chest, stand, row = thing
    return is_chest(chest) and is_stand(stand) and is_row(row)


def fit_sheet(sheet):
    """The SHEET as a tuple of tuples, else Unfit()."""
    own = tupled(sheet, 3)
    if not is_sheet(own):
        raise Unfit()
    return own


def words_of_numbers(word, numbers):
    """The list of a word and of the words of numbers."""
    return [word] + [word_of(number) for number in numbers]


def sheet_text(sheet):
    """The text of a SHEET."""
    chest, (shape, xs, ys, fronts), row = fit_sheet(sheet)
    rows = [words_of_numbers("chest", chest), words_of_numbers("stand", shape + xs + ys + fronts)]
    rows.extend([words_of_move(move) for move in row])
    return "".join([" ".join(own) + "\n" for own in rows])


def triples_of(row, word):
    """The tuple of the triples of numbers behind a word of a list of words, None if it tells none."""
    if row[0] != word:
        return None
    numbers = [number_of(own) for own in row[1:]]
    return tuple([tuple(numbers[at:at + 3]) for at in range(0, len(numbers), 3)])


def read_sheet(text):
    """The SHEET of a text; BadText(line)."""
    rows = rows_of(text)
    if rows == []:
        raise BadText(0)
    line, row = rows[0]
    told = triples_of(row, "chest")
    if told is None or len(told) != 1 or not is_chest(told[0]) or len(rows) == 1:
        raise BadText(line)
    line, row = rows[1]
    stand = triples_of(row, "stand")
    if not is_stand(stand):
        raise BadText(line)
    return told[0], stand, read_moves(rows[2:])


def sign_at(square, walls, squares):
    """The sign of a square."""
    if square in walls:
        return WALL
    return CHEST if square in squares else EMPTY


def board_picture(board, chest, lying):
    """The picture of a LYING of chest on a BOARD; Unfit() if it does not fit."""
    own, sides, here = fit_board(board), fit_chest(chest), fit_lying(lying)
    if not fits(own, sides, here):
        raise Unfit()
    wide, high, walls = own
    squares = squares_of(sides, here)
    lines = []
    for y in range(high - 1, -1, -1):
        lines.append("".join([sign_at((x, y), walls, squares) for x in range(wide)]) + "\n")
    return "".join(lines)


def picture_lines(text):
    """The list of the lines of a picture, northmost first; BadText(line)."""
    lines = fit_text(text).split("\n")
    unended = lines.pop()
    rows = lines + [unended] if unended != "" else lines
    if rows == []:
        raise BadText(0)
    for line, row in enumerate(rows):
        if row == "" or len(row) != len(rows[0]) or any([sign not in (WALL, CHEST, EMPTY) for sign in row]):
            raise BadText(line)
    if unended != "":
        raise BadText(len(lines))
    return rows


def squares_with(rows, sign):
    """The set of the squares that have this sign, of the lines of a picture, southmost first."""
    return tuple([(x, y) for x in range(len(rows[0])) for y in range(len(rows)) if rows[y][x] == sign])


def is_whole(squares):
    """Whether squares, ascending, are a whole rectangle, and some."""
    if squares == ():
        return False
    (west, south), (east, north) = squares[0], squares[-1]
    return squares == tuple([(x, y) for x in range(west, east + 1) for y in range(south, north + 1)])


def read_picture(text):
    """The pair of the BOARD and the set of the squares covered; BadText(line), CanNot() if these are no rectangle."""
    rows = picture_lines(text)[::-1]
    squares = squares_with(rows, CHEST)
    if not is_whole(squares):
        raise CanNot()
    return (len(rows[0]), len(rows), squares_with(rows, WALL)), squares


def fit_squares(squares):
    """The set of BASES as a tuple of tuples, else Unfit()."""
    own = tupled(squares, 2)
    if not are_bases(own):
        raise Unfit()
    return own


def lyings_in(board, chest, squares):
    """The set of the LYINGS of chest that fit board and cover just these squares."""
    own, sides, told = fit_board(board), fit_chest(chest), fit_squares(squares)
    if told == ():
        return ()
    # Of the squares that a LYING covers its BASE is the least.
    lyings = [(shape, told[0]) for shape in sorted(RING)]
    return tuple([lying for lying in lyings if squares_of(sides, lying) == told and fits(own, sides, lying)])
