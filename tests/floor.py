"""A CHEST on a BOARD as a body in space, and searches over squares; nothing here is taken from the package.

Squares are one wide: the square (x, y) has, doubled, its corners at (2 x, 2 y) and (2 x + 2, 2 y + 2).
"""

from tests.body import Body
from tests.drawn import ALL_MOVES, ALL_SHAPES, ALL_TIPS, ALL_TURNS, Draw

CHESTS = [(1, 1, 1), (1, 1, 2), (1, 2, 3), (2, 2, 2), (1, 3, 1), (2, 1, 1)]
MOVES_BY = {"tips": ALL_TIPS, "turns": ALL_TURNS, "both": ALL_MOVES}


def body_of(chest, lying):
    """The body of a LYING."""
    shape, (x, y) = lying
    body = Body.on(chest, (shape, (0, 0, 0), (0, 0, 0), (1, 1, 1)))
    (west, south), _ = body.lower_face()
    east, north, up = body.middle
    return Body(chest, (east + 2 * x - west, north + 2 * y - south, up), body.faces)


def lying_of_body(body):
    """The LYING of a body, None if its corners are not at those of squares."""
    (west, south), _ = body.lower_face()
    if west % 2 or south % 2:
        return None
    return body.shape(), (west // 2, south // 2)


def lain_told(chest, lying, move):
    return lying_of_body(body_of(chest, lying).moved(move))


def covered_told(chest, lying):
    """The squares whose middles are within the lower face."""
    (west, south), (east, north) = body_of(chest, lying).lower_face()
    near = [(x, y) for x in range(west // 2 - 1, east // 2 + 1) for y in range(south // 2 - 1, north // 2 + 1)]
    return tuple(sorted((x, y) for x, y in near if west < 2 * x + 1 < east and south < 2 * y + 1 < north))


def fits_told(board, chest, lying):
    wide, high, walls = board
    squares = covered_told(chest, lying)
    return all(0 <= x < wide and 0 <= y < high and (x, y) not in walls for x, y in squares)


def all_fitting(board, chest):
    """All LYINGS that fit, ascending."""
    wide, high, _ = board
    every = [(shape, (x, y)) for shape in sorted(ALL_SHAPES) for x in range(wide) for y in range(high)]
    return [lying for lying in every if fits_told(board, chest, lying)]


def steps_told(board, chest, how):
    """For each LYING that fits the list of the pairs (move, LYING behind it that fits)."""
    fitting = all_fitting(board, chest)
    inside = set(fitting)
    steps = {}
    for lying in fitting:
        beyond = [(move, lain_told(chest, lying, move)) for move in MOVES_BY[how]]
        steps[lying] = [(move, there) for move, there in beyond if there in inside]
    return steps


def fewest_by_rounds(steps, lying):
    """The fewest steps to each LYING: all are tried again and again until none is come to by fewer."""
    far = {lying: 0}
    while True:
        nearer = [(there, far[own] + 1) for own in far for _, there in steps[own]
                  if far[own] + 1 < far.get(there, len(steps) + 1)]
        if not nearer:
            return far
        for there, many in nearer:
            far[there] = min(many, far.get(there, many))


def drawn_board(draw, wide, high, walls):
    squares = [(x, y) for x in range(wide) for y in range(high)]
    return wide, high, tuple(sorted(draw.chance.sample(squares, min(walls, len(squares)))))


def drawn_places(seed, many):
    """Triples (board, chest, lying) of LYINGS that fit."""
    draw = Draw(seed)
    while many > 0:
        board = drawn_board(draw, draw.chance.randint(1, 6), draw.chance.randint(1, 5), draw.chance.choice((0, 1, 2, 4, 7)))
        chest = draw.chance.choice(CHESTS)
        fitting = all_fitting(board, chest)
        if fitting:
            many -= 1
            yield board, chest, draw.chance.choice(fitting)
