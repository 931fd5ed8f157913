"""TURNS, and the SLANTS that tell where rows of them lead."""

from movedchest.errors import CanNot, TooMany, Unfit
from movedchest.kinds import are_numbers, fit_from_to, is_sign, negative, summed, tupled
from movedchest.rows import behind, is_row, turns_alone
from movedchest.stands import all_moves, fit_move, fit_stand, flipped, is_tip, more_at, step_by

MOST_TURNS = 2000
# Of each corner: 1 at the east ones and else -1, and 1 at the north ones and else -1.
CORNER_SIGNS = ((-1, -1), (1, -1), (1, 1), (-1, 1))
NO_SLANTS = ("shape", "upright", "half")


def fit_slants(slants):
    """The quadruple of numbers as a tuple, else Unfit()."""
    own = tupled(slants, 1)
    if not are_numbers(own, 4):
        raise Unfit()
    return own


def fit_sign(value):
    """value, if it is 1 or -1, else Unfit()."""
    if not is_sign(value):
        raise Unfit()
    return value


def shifts_between(stand, goal):
    """The pair of how much more xs and ys of goal are, side by side."""
    return summed(goal[1], negative(stand[1])), summed(goal[2], negative(stand[2]))


def slants_of(stand, goal):
    """The SLANTS of STANDS that have some."""
    i, j, _ = stand[0]
    more_x, more_y = shifts_between(stand, goal)
    s = [(x + y) // 2 for x, y in zip(more_x, more_y)]
    d = [(x - y) // 2 for x, y in zip(more_x, more_y)]
    return s[i], d[j], s[j], d[i]


def is_askew(slants):
    """Whether a pair has an odd and an even number."""
    return (slants[0] - slants[1]) % 2 == 1 or (slants[2] - slants[3]) % 2 == 1


def stand_at(stand, slants):
    """The STAND to which rows of turns come with SLANTS that are not askew."""
    shape, xs, ys, fronts = stand
    i, j, k = shape
    s_i, d_j, s_j, d_i = slants
    if s_i % 2 == 1:
        fronts = flipped(fronts, i)
    if s_j % 2 == 1:
        fronts = flipped(fronts, j)
    more_x = more_at(((i, s_i + d_i), (j, s_j + d_j)))
    more_y = more_at(((i, s_i - d_i), (j, s_j - d_j)))
    there = shape if (s_i + s_j) % 2 == 0 else (j, i, k)
    return there, summed(xs, more_x), summed(ys, more_y), fronts


def what_bars(stand, goal):
    """The first word of what bars turns; None if nothing does."""
    i, j, k = stand[0]
    if goal[0][2] != k:
        return "shape"
    more_x, more_y = shifts_between(stand, goal)
    if more_x[k] != 0 or more_y[k] != 0:
        return "upright"
    if any([(more_x[side] + more_y[side]) % 2 == 1 for side in (i, j)]):
        return "half"
    slants = slants_of(stand, goal)
    if is_askew(slants):
        return "odd"
    told = stand_at(stand, slants)
    if told[0] != goal[0]:
        return "way"
    return "fronts" if told[3] != goal[3] else None


def slants_between(stand, goal):
    """The SLANTS; CanNot() if both STANDS have none."""
    start, end = fit_stand(stand), fit_stand(goal)
    if what_bars(start, end) in NO_SLANTS:
        raise CanNot()
    return slants_of(start, end)


def stand_by_slants(stand, slants):
    """The STAND to which rows of turns come with these SLANTS; CanNot() if a pair has an odd and an even number."""
    start, own = fit_stand(stand), fit_slants(slants)
    if is_askew(own):
        raise CanNot()
    return stand_at(start, own)


def can_turn_to(stand, goal):
    """Whether rows of turns come from stand to goal."""
    return what_bars(fit_stand(stand), fit_stand(goal)) is None


def why_not_turned(stand, goal):
    """The word of what bars turns; CanNot() if nothing does."""
    word = what_bars(fit_stand(stand), fit_stand(goal))
    if word is None:
        raise CanNot()
    return word


def pair_turned(move):
    """The triple of the pair of the SLANTS that a TURN changes and its two numbers; CanNot() if move is a tip."""
    own = fit_move(move)
    if is_tip(own):
        raise CanNot()
    u, v = CORNER_SIGNS[own[1]]
    return (0, u, -v) if own[2] == -1 else (1, v, u)


def turn_for(number, one, other):
    """The TURN that changes this pair of the SLANTS by these two numbers."""
    own = fit_from_to(number, 0, 1)
    first, second = fit_sign(one), fit_sign(other)
    if own == 0:
        return "turn", CORNER_SIGNS.index((first, -second)), -1
    return "turn", CORNER_SIGNS.index((second, first)), 1


def turn_slants(stand, goal):
    """The SLANTS of STANDS of which turns come from one to the other, else CanNot()."""
    if not can_turn_to(stand, goal):
        raise CanNot()
    return slants_between(stand, goal)


def turns_of(slants):
    """The pair of how many of the fewest turns change the first pair, the second pair of SLANTS."""
    s_i, d_j, s_j, d_i = slants
    return max(abs(s_i), abs(d_j)), max(abs(s_j), abs(d_i))


def fewest_turns(stand, goal):
    """How many turns at the fewest come from stand to goal; CanNot() if none do."""
    return sum(turns_of(turn_slants(stand, goal)))


def all_turns():
    """The list of all eight TURNS, ascending."""
    return [move for move in all_moves() if not is_tip(move)]


def first_turns(stand, goal):
    """The set of the MOVES with which a row of the fewest turns begins."""
    start, end = fit_stand(stand), fit_stand(goal)
    turns = fewest_turns(start, end)
    return tuple([move for move in all_turns() if fewest_turns(step_by(start, move), end) < turns])


def signs_for(number, many):
    """The list of so many numbers 1, then -1, that come to number together."""
    onward = (many + number) // 2
    return [1] * onward + [-1] * (many - onward)


def shortest_turns(stand, goal):
    """A ROW of the fewest turns to goal, however long it is."""
    slants = turn_slants(stand, goal)
    row = []
    for pair, many in enumerate(turns_of(slants)):
        ones = signs_for(slants[2 * pair], many)
        others = signs_for(slants[2 * pair + 1], many)
        for one, other in zip(ones, others):
            # Behind oddly many turns the pairs are exchanged, as sides i and j are.
            row.append(turn_for((pair + len(row)) % 2, one, other))
    return tuple(row)


def turn_plan(stand, goal):
    """A ROW of the fewest turns to goal; CanNot(), then TooMany() if it has more than 2,000."""
    if fewest_turns(stand, goal) > MOST_TURNS:
        raise TooMany()
    return shortest_turns(stand, goal)


def is_turn_plan(stand, goal, thing):
    """Whether thing is a ROW of the fewest turns to goal, of at most 2,000 MOVES."""
    start, end = fit_stand(stand), fit_stand(goal)
    if not is_row(thing) or len(thing) > MOST_TURNS or not turns_alone(thing):
        return False
    return can_turn_to(start, end) and len(thing) == fewest_turns(start, end) and behind(start, thing) == end
