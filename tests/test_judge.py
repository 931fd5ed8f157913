"""[25]: DEMANDS, PAPERS and REASONS, beside searches of rows."""

import itertools
import unittest

from movedchest.barred import bars, stakes
from movedchest.counts import counts_between, stand_by
from movedchest.errors import TooMany, Unfit
from movedchest.judge import (
    first_fallen, is_demand, is_paper_against, is_reason_for, is_so, paper_against, reason_for,
)
from movedchest.slants import slants_between, stand_by_slants
from tests.drawn import ALL_FRONTS, ALL_MOVES, ALL_SHAPES, ALL_TIPS, ALL_TURNS, GREAT, HOME, Draw
from tests.search import all_within, walked

EAST, NORTH, WEST, SOUTH = ALL_TIPS
LEFT = ("turn", 2, 1)
OVER = ((2, 1, 0), (1, 0, 1), (0, 0, 0), (-1, 1, 1))
FAR = ((0, 1, 2), (0, 0, 0), (2, 2, 0), (-1, -1, 1))
SLID = ((0, 1, 2), (2, 0, 0), (-2, 0, 0), (1, 1, 1))


def near_demands(seed, many):
    """Pairs (demand, whether it stands), of what few MOVES come to, as a search tells it."""
    draw = Draw(seed)
    for number in range(many):
        stand = (draw.chance.choice(ALL_SHAPES),) + draw.stand(GREAT if number % 3 == 0 else 9)[1:]
        tips, turns = all_within(stand, ALL_TIPS, 5), all_within(stand, ALL_TURNS, 4)
        goal = draw.chance.choice(sorted(tips))
        yield ("come", stand, goal), True
        other = goal[:3] + (draw.chance.choice(ALL_FRONTS),)
        if other not in tips and goal[3] != other[3]:
            yield ("come", stand, other), False
        for most in {0, tips[goal] - 1, tips[goal], tips[goal] + 1, 10 ** 6}:
            if most >= 0:
                yield ("fewest", stand, goal, most), most >= tips[goal]
        goal = draw.chance.choice(sorted(turns))
        for most in {0, turns[goal] - 1, turns[goal], turns[goal] + 1, 10 ** 6}:
            if most >= 0:
                yield ("turns", stand, goal, most), most >= turns[goal]
        row, other = draw.row(draw.chance.randint(0, 3)), draw.row(draw.chance.randint(0, 3))
        for pair in ((row, other), (row, row), (row + (EAST, WEST), row), ((NORTH, EAST, SOUTH) + row, (LEFT,) + row)):
            yield ("alike",) + pair, walked(HOME, pair[0]) == walked(HOME, pair[1])


def papers_told(demand):
    """All PAPERS against a DEMAND that does not stand."""
    if demand[0] == "come":
        return bars(demand[1], demand[2])
    if demand[0] == "fewest":
        return stakes(demand[1], demand[2])
    if demand[0] == "turns":
        return [slants_between(demand[1], demand[2])]
    return [(walked(HOME, demand[1]), walked(HOME, demand[2]))]


def reason_told(demand, thing):
    """Whether a ROW is a REASON, MOVE by MOVE."""
    moves = ALL_TURNS if demand[0] == "turns" else ALL_TIPS
    if not all(move in moves for move in thing) or walked(demand[1], thing) != demand[2]:
        return False
    return demand[0] == "come" or len(thing) <= demand[3]


class Demands(unittest.TestCase):
    def test_what_is_one(self):
        for demand in (("come", HOME, OVER), ("come", HOME, OVER[:3] + ((1, 1, 1),)), ("fewest", HOME, FAR, 0),
                       ("fewest", HOME, HOME, 0), ("turns", HOME, SLID, 0), ("turns", HOME, HOME, 10 ** 9),
                       ("alike", (), ()), ("alike", (EAST, LEFT), (WEST,))):
            self.assertIs(is_demand(demand), True)
            self.assertIs(is_demand(list(demand)), False)
            self.assertIs(is_demand(demand + (0,)), False)
            self.assertIs(is_demand(demand[:-1]), False)
            self.assertIs(is_demand(demand[:1] + (list(demand[1]),) + demand[2:]), False)

    def test_what_is_none(self):
        for thing in (("fewest", HOME, OVER[:3] + ((1, 1, 1),), 9), ("fewest", HOME, OVER, True), ("fewest", HOME, OVER, -1),
                      ("fewest", HOME, OVER, None), ("turns", HOME, OVER, 9), ("turns", HOME, SLID, False),
                      ("turns", HOME, SLID, -1), ("turns", HOME, SLID[:3] + ((1, 1, -1),), 9), ("alike", (), ("tip", 0)),
                      ("alike", HOME, HOME), ("come", (), ()), ("come", HOME, HOME[:3]), ("Come", HOME, HOME), ("", HOME, HOME),
                      (("come",), HOME, HOME), (None, HOME, HOME), None, True, (), "come", ("come",), 0, [],
                      ("come", HOME, (HOME[0], (0, 0, True)) + HOME[2:])):
            self.assertIs(is_demand(thing), False, thing)
            with self.assertRaises(Unfit):
                is_so(thing)
        # Lists are no DEMANDS, but stand for them.
        for thing in (("alike", (), []), ("alike", (["tip", 0],), ()), ["alike", (), ()], ("come", list(HOME), HOME)):
            self.assertIs(is_demand(thing), False, thing)
            self.assertIn(is_so(thing), (True, False))


class Stands(unittest.TestCase):
    def test_beside_searches(self):
        seen = {}
        for demand, stands in near_demands(1301, 30):
            seen[demand[0], stands] = seen.get((demand[0], stands), 0) + 1
            self.assertIs(is_demand(demand), True)
            self.assertIs(is_so(demand), stands)
        self.assertEqual(len(seen), 8)
        self.assertGreater(min(seen.values()), 5)

    def test_just_if_there_is_no_paper_just_if_there_is_a_reason(self):
        for demand, stands in near_demands(1302, 25):
            paper, reason = paper_against(demand), reason_for(demand)
            self.assertEqual((paper is None, reason is not None), (stands, stands))
            if stands:
                self.assertIs(is_reason_for(demand, reason), True)
                for thing in papers_told(demand):
                    self.assertIs(is_paper_against(demand, thing), False)
            else:
                self.assertIs(is_paper_against(demand, paper), True)
                self.assertIn(paper, papers_told(demand))
                for thing in ((), (EAST,), HOME, walked(HOME, (EAST,)), None):
                    self.assertIs(is_reason_for(demand, thing), False)
            self.assertIs(is_paper_against(demand, None), False)
            self.assertIs(is_reason_for(demand, None), False)

    def test_all_papers_and_no_others(self):
        for demand, stands in near_demands(1303, 20):
            told = papers_told(demand)
            things = told + [("sum", 0), ("front", 1), ("odd", (0,)), ("front", 0), ((0,) * 6, ()), (0, 0, 0, 0), (1, 1, 0, 0),
                             (HOME, HOME), (HOME, OVER), ((2, 0, 0, 0, 0, 0), ()), HOME]
            for thing in things:
                self.assertIs(is_paper_against(demand, thing), not stands and thing in told)
                if isinstance(thing, tuple):
                    self.assertIs(is_paper_against(demand, list(thing)), False)

    def test_all_reasons_of_few_moves_and_no_others(self):
        draw = Draw(1304)
        rows = [row for many in range(4) for row in itertools.product(ALL_MOVES, repeat=many)]
        seen = {True: 0, False: 0}
        for demand, stands in near_demands(1304, 5):
            if demand[0] == "alike":
                there = walked(HOME, demand[1])
                for thing in (there, HOME, OVER, walked(HOME, demand[2])):
                    self.assertIs(is_reason_for(demand, thing), stands and thing == there)
                continue
            for row in draw.chance.sample(rows, 150) + [(), draw.tips(5), draw.row(4, ALL_TURNS)]:
                told = reason_told(demand, row)
                seen[told] += 1
                self.assertIs(is_reason_for(demand, row), told)
            # There and back as often as one likes: as long as it may be.
            row = reason_for(demand)
            if row is not None:
                once_more = row + ((EAST, WEST) if demand[0] != "turns" else (("turn", 0, 1), ("turn", 0, -1)))
                self.assertIs(is_reason_for(demand, once_more), reason_told(demand, once_more))

    def test_rows_of_another_kind(self):
        """Turns come to SLID, three tips to where LEFT does: TIPS alone count, TURNS alone."""
        tips, there = (NORTH, EAST, SOUTH), walked(HOME, (LEFT,))
        self.assertEqual(walked(HOME, tips), there)
        for demand in (("come", HOME, there), ("fewest", HOME, there, 3)):
            self.assertIs(is_reason_for(demand, tips), True)
            self.assertIs(is_reason_for(demand, (LEFT,)), False)
        self.assertIs(is_reason_for(("turns", HOME, there, 3), (LEFT,)), True)
        self.assertIs(is_reason_for(("turns", HOME, there, 3), tips), False)

    def test_number_0(self):
        for word in ("fewest", "turns"):
            self.assertIs(is_so((word, HOME, HOME, 0)), True)
            self.assertEqual((reason_for((word, HOME, HOME, 0)), paper_against((word, HOME, HOME, 0))), ((), None))
            self.assertIs(is_reason_for((word, HOME, HOME, 0), ()), True)
        self.assertIs(is_so(("fewest", HOME, OVER, 0)), False)
        self.assertEqual(paper_against(("fewest", HOME, OVER, 0)), ((1, 0, 0, 0, 0, 0), (1, 2, 3, 4, 5)))
        self.assertIs(is_so(("turns", HOME, SLID, 0)), False)
        self.assertEqual(paper_against(("turns", HOME, SLID, 0)), (0, 0, 0, 2))

    def test_things_that_are_lists_or_bools(self):
        demand = ("fewest", HOME, OVER, 0)
        for thing in ([(1, 0, 0, 0, 0, 0), (1, 2, 3, 4, 5)], ([1, 0, 0, 0, 0, 0], (1, 2, 3, 4, 5)),
                      ((True, 0, 0, 0, 0, 0), (1, 2, 3, 4, 5)), ((1, 0, 0, 0, 0, 0), [1, 2, 3, 4, 5])):
            self.assertIs(is_paper_against(demand, thing), False)
        for thing in ([0, 0, 0, 2], (False, 0, 0, 2), (0, 0, 0, 2, 0), (0, 0, 0)):
            self.assertIs(is_paper_against(("turns", HOME, SLID, 1), thing), False)
        demand = ("alike", (EAST,), ())
        for thing in ([OVER, HOME], (list(OVER), HOME), (HOME, OVER), (OVER,), (OVER, HOME[:3] + ((1, 1, True),))):
            self.assertIs(is_paper_against(demand, thing), False)
        self.assertIs(is_paper_against(demand, (OVER, HOME)), True)
        for thing in (list(HOME), HOME[:3], (HOME,), HOME[:3] + ((1, 1, True),), ()):
            self.assertIs(is_reason_for(("alike", (), ()), thing), False)
        for thing in ([EAST], (["tip", 0],), (("tip", False),), EAST, ((EAST,),), "tip"):
            self.assertIs(is_reason_for(("come", HOME, OVER), thing), False)


class Far(unittest.TestCase):
    def test_reasons_of_2000_moves_and_of_more(self):
        for many in (2000, 2001):
            goal = walked(HOME, (EAST,) * many)
            aside = stand_by_slants(HOME, (many, many, 0, 0))
            for demand in (("come", HOME, goal), ("fewest", HOME, goal, many), ("fewest", HOME, goal, 10 ** 6),
                           ("turns", HOME, aside, many), ("turns", HOME, aside, 10 ** 9)):
                self.assertIs(is_so(demand), True)
                if many == 2000:
                    row = reason_for(demand)
                    self.assertEqual((len(row), walked(HOME, row)), (2000, demand[2]))
                    self.assertIs(is_reason_for(demand, row), True)
                else:
                    with self.assertRaises(TooMany):
                        reason_for(demand)
            # A thing is one however long it is.
            self.assertIs(is_reason_for(("come", HOME, goal), (EAST,) * many), True)
            self.assertIs(is_reason_for(("fewest", HOME, goal, many), (EAST,) * many), True)
            for demand in (("fewest", HOME, goal, many - 1), ("turns", HOME, aside, many - 1)):
                # What does not stand has none, however far it is.
                self.assertIs(reason_for(demand), None)
                self.assertIs(is_reason_for(demand, (EAST,) * many), False)

    def test_alike_by_long_rows(self):
        row = (EAST, NORTH) * 1000
        self.assertEqual(reason_for(("alike", row, row)), walked(HOME, row))
        self.assertIs(is_reason_for(("alike", row, row), walked(HOME, row)), True)

    def test_great_numbers(self):
        draw = Draw(1311)
        for stand in draw.stands(30):
            goal = walked(stand, draw.tips(6))
            counts = tuple(own + 4 * draw.number(GREAT) for own in counts_between(stand, goal))
            far = stand_by(stand, goal[0], counts)
            size = sum(map(abs, counts))
            self.assertIs(is_so(("come", stand, far)), True)
            self.assertIs(is_so(("fewest", stand, far, size + 4)), True)
            self.assertIs(is_so(("fewest", stand, far, size - 1)), False)
            with self.assertRaises(TooMany):
                reason_for(("come", stand, far))
            self.assertIs(is_paper_against(("fewest", stand, far, size - 1), paper_against(("fewest", stand, far, size - 1))), True)


class Several(unittest.TestCase):
    def test_first_fallen(self):
        draw = Draw(1321)
        every = list(near_demands(1321, 8))
        for _ in range(60):
            chosen = draw.chance.sample(every, draw.chance.randint(0, 5))
            told = [number for number, (_, stands) in enumerate(chosen) if not stands]
            demands = tuple(demand for demand, _ in chosen)
            self.assertEqual(first_fallen(demands), told[0] if told else None)
            self.assertEqual(first_fallen(list(map(list, demands))), told[0] if told else None)

    def test_none_and_one(self):
        self.assertIs(first_fallen(()), None)
        self.assertIs(first_fallen([]), None)
        self.assertEqual(first_fallen((("alike", (EAST,), ()),)), 0)
        self.assertEqual(first_fallen((("alike", (), ()),) * 3 + (("alike", (EAST,), ()),) * 2), 3)

    def test_unfit_ahead_of_what_has_fallen(self):
        fallen = ("alike", (EAST,), ())
        for value in (None, True, (), "alike", ("alike", ()), ("fewest", HOME, OVER[:3] + ((1, 1, 1),), 1)):
            for demands in ((fallen, value), (value, fallen), (value,), value):
                if demands != ():
                    with self.assertRaises(Unfit):
                        first_fallen(demands)
        with self.assertRaises(Unfit):
            first_fallen(fallen)

    def test_wrong_inputs(self):
        for value in (None, True, (), "come", ("come",), ("come", HOME), ("fewest", HOME, OVER, True), (("come", HOME, OVER),)):
            for function in (is_so, paper_against, reason_for):
                with self.assertRaises(Unfit):
                    function(value)
            for function in (is_paper_against, is_reason_for):
                with self.assertRaises(Unfit):
                    function(value, ())


if __name__ == "__main__":
    unittest.main()
