"""How many shortest ROWS lead from STAND to STAND, and which is which number."""

from math import comb

from movedchest.counts import counts_between
from movedchest.errors import CanNot, TooMany
from movedchest.fewest import all_often, fewest_tips, first_tips, is_plan
from movedchest.kinds import fit_from_to
from movedchest.links import once_less
from movedchest.rows import fit_row
from movedchest.shapes import LINKS, position
from movedchest.slants import MOST_TURNS, all_turns, is_turn_plan, pair_turned, turn_slants, turns_of
from movedchest.stands import fit_stand, step_by

MOST_LISTED = 14
GREATEST = 1000000000000000000000000000000


def fit_place(number):
    """The number of a ROW, else Unfit()."""
    return fit_from_to(number, 0, GREATEST)


def few_turn_slants(stand, goal):
    """The SLANTS from stand to goal; CanNot() if no turns come to it, TooMany() if more than 2,000 are needed."""
    slants = turn_slants(stand, goal)
    if sum(turns_of(slants)) > MOST_TURNS:
        raise TooMany()
    return slants


def rows_by_slants(slants):
    """How many shortest ROWS of turns have these SLANTS."""
    first, second = turns_of(slants)
    rows = comb(first + second, first)
    for many, number in zip((first, first, second, second), slants):
        rows = rows * comb(many, (many + number) // 2)
    return rows


def how_many_turn_rows(stand, goal):
    """How many shortest ROWS of turns come from stand to goal."""
    return rows_by_slants(few_turn_slants(stand, goal))


def less_turned(slants, pair, one, other):
    """The SLANTS that are left behind a turn that changes this pair by these numbers."""
    s_i, d_j, s_j, d_i = slants
    if pair == 0:
        return s_i - one, d_j - other, s_j, d_i
    return s_i, d_j, s_j - one, d_i - other


def turns_on(slants, rows, done):
    """The list, MOVES ascending, of triples: a first turn, how many shortest ROWS have it, the SLANTS then left.

    rows is how many ROWS there are in all, done how many turns are made
    already: SLANTS are those from the first STAND, whose pairs are exchanged
    behind oddly many turns.
    """
    many = turns_of(slants)
    found = []
    for move in all_turns():
        own, one, other = pair_turned(move)
        pair = (own + done) % 2
        if many[pair] == 0:
            continue
        # Of sum(many) places many[pair] are this pair's; of these one, other stand at so many, either by itself.
        ones = many[pair] + one * slants[2 * pair]
        others = many[pair] + other * slants[2 * pair + 1]
        begun = rows * ones * others // (4 * many[pair] * sum(many))
        found.append((move, begun, less_turned(slants, pair, one, other)))
    return found


def turn_row_at(stand, goal, number):
    """The shortest ROW of turns with this number, ascending; CanNot() if there are no more than number."""
    start, end, place = fit_stand(stand), fit_stand(goal), fit_place(number)
    slants = few_turn_slants(start, end)
    rows = rows_by_slants(slants)
    if place >= rows:
        raise CanNot()
    row = []
    for done in range(sum(turns_of(slants))):
        for move, begun, beyond in turns_on(slants, rows, done):
            if place < begun:
                row.append(move)
                rows, slants = begun, beyond
                break
            place -= begun
    return tuple(row)


def turn_row_number(stand, goal, row):
    """The number of row of the shortest ROWS of turns; CanNot() if it is none of them."""
    start, end, own = fit_stand(stand), fit_stand(goal), fit_row(row)
    slants = few_turn_slants(start, end)
    if not is_turn_plan(start, end, own):
        raise CanNot()
    rows = rows_by_slants(slants)
    place = 0
    for done, turned in enumerate(own):
        for move, begun, beyond in turns_on(slants, rows, done):
            if move == turned:
                rows, slants = begun, beyond
                break
            place += begun
    return place


def links_gone(stand, goal):
    """The list, ascending, of how often shortest ROWS of tips go over each LINK, for each longest free stretch."""
    return all_often(stand, goal)


def walks_over(start, often):
    """How many walks from position start go over each LINK just so often."""
    here = {(start, often): 1}
    for _ in range(sum(often)):
        later = {}
        for (at, left), many in here.items():
            onward, backward = (at, (at + 1) % 6), ((at - 1) % 6, (at - 1) % 6)
            for link, beyond in (onward, backward):
                if left[link] > 0:
                    there = beyond, once_less(left, link)
                    later[there] = later.get(there, 0) + many
        here = later
    return sum(here.values())


def rows_of_tips(stand, goal):
    """How many shortest ROWS of tips lead from stand to goal, however many tips they have."""
    counts = counts_between(stand, goal)
    rows = 0
    for often in all_often(stand, goal):
        # What is gone over to and fro is gone over either way first.
        both_ways = len([link for link in LINKS if often[link] > 0 and counts[link] == 0])
        rows += walks_over(position(stand[0]), often) << both_ways
    return rows


def fit_few_tips(stand, goal):
    """The pair of both STANDS; Unfit(), CanNot() if no tips lead from one to the other, TooMany() if more than 14."""
    start, end = fit_stand(stand), fit_stand(goal)
    if fewest_tips(start, end) > MOST_LISTED:
        raise TooMany()
    return start, end


def how_many_tip_rows(stand, goal):
    """How many shortest ROWS of tips lead from stand to goal."""
    start, end = fit_few_tips(stand, goal)
    return rows_of_tips(start, end)


def tips_on(stand, goal):
    """The list, MOVES ascending, of triples: a first tip, how many shortest ROWS have it, the STAND then come to."""
    found = []
    for way in first_tips(stand, goal):
        beyond = step_by(stand, ("tip", way))
        found.append((("tip", way), rows_of_tips(beyond, goal), beyond))
    return found


def tip_row_at(stand, goal, number):
    """The shortest ROW of tips with this number, ascending; CanNot() if there are no more than number."""
    place = fit_place(number)
    here, end = fit_few_tips(stand, goal)
    if place >= rows_of_tips(here, end):
        raise CanNot()
    row = []
    while here != end:
        for move, begun, beyond in tips_on(here, end):
            if place < begun:
                row.append(move)
                here = beyond
                break
            place -= begun
    return tuple(row)


def tip_row_number(stand, goal, row):
    """The number of row of the shortest ROWS of tips; CanNot() if it is none of them."""
    own = fit_row(row)
    here, end = fit_few_tips(stand, goal)
    if not is_plan(here, end, own):
        raise CanNot()
    place = 0
    for tip in own:
        for move, begun, beyond in tips_on(here, end):
            if move == tip:
                here = beyond
                break
            place += begun
    return place
