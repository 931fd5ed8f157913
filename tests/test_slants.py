"""[13]: TURNS and SLANTS, beside searches from both sides and bodies turned in space."""

import itertools
import unittest

from movedchest.errors import CanNot, TooMany, Unfit
from movedchest.slants import (
    can_turn_to, fewest_turns, first_turns, is_turn_plan, pair_turned, slants_between, stand_by_slants, turn_for,
    turn_plan, why_not_turned,
)
from tests.body import Body
from tests.drawn import ALL_FRONTS, ALL_SHAPES, ALL_TIPS, ALL_TURNS, CHESTS, GREAT, HOME, Draw
from tests.search import all_shortest, fewest_from_both, stepped, turns_within, walked

NEAR = 6
WORDS = ["shape", "upright", "half", "odd", "way", "fronts"]


def beginnings(seed):
    """A STAND of each of the six SHAPES."""
    draw = Draw(seed)
    for shape in ALL_SHAPES:
        _, xs, ys, fronts = draw.stand(draw.chance.choice((9, GREAT)))
        yield shape, xs, ys, fronts


def fit_slants(draw, most):
    """Drawn SLANTS, the numbers of each pair both odd or both even."""
    s_i, s_j = draw.number(most), draw.number(most)
    return s_i, s_i + 2 * draw.number(most), s_j, s_j + 2 * draw.number(most)


def pairs_to_search(seed, many):
    draw = Draw(seed)
    for stand in draw.stands(many):
        yield stand, walked(stand, draw.row(draw.chance.randint(0, 20), ALL_TURNS))


def told_bars(stand, goal):
    """All words that bar turns: those from "odd" on are asked for only if SLANTS are there, as [13] tells them."""
    i, j, k = stand[0]
    xs = [b - a for a, b in zip(stand[1], goal[1])]
    ys = [b - a for a, b in zip(stand[2], goal[2])]
    found = []
    if goal[0] not in ((i, j, k), (j, i, k)):
        found.append("shape")
    if (xs[k], ys[k]) != (0, 0):
        found.append("upright")
    if any((x + y) % 2 or (x - y) % 2 for x, y in ((xs[i], ys[i]), (xs[j], ys[j]))):
        found.append("half")
    if found:
        return found
    s_i, d_i = (xs[i] + ys[i]) // 2, (xs[i] - ys[i]) // 2
    s_j, d_j = (xs[j] + ys[j]) // 2, (xs[j] - ys[j]) // 2
    if s_i % 2 != d_j % 2 or s_j % 2 != d_i % 2:
        found.append("odd")
    if goal[0] != ((i, j, k) if (s_i + s_j) % 2 == 0 else (j, i, k)):
        found.append("way")
    turned = {i: s_i % 2 == 1, j: s_j % 2 == 1, k: False}
    if any((stand[3][side] != goal[3][side]) != turned[side] for side in range(3)):
        found.append("fronts")
    return found


class Pairs(unittest.TestCase):
    def test_each_turn_changes_one_pair(self):
        for stand in Draw(171).stands(40):
            for move in ALL_TURNS:
                told = slants_between(stand, stepped(stand, move))
                pair, one, other = pair_turned(move)
                self.assertEqual(told, (one, other, 0, 0) if pair == 0 else (0, 0, one, other))
                self.assertEqual(pair, 0 if move[2] == -1 else 1)
                self.assertEqual(turn_for(pair, one, other), move)

    def test_turn_for_all(self):
        told = [turn_for(*own) for own in itertools.product((0, 1), (1, -1), (1, -1))]
        self.assertEqual(sorted(told), ALL_TURNS)
        for pair, one, other in itertools.product((0, 1), (1, -1), (1, -1)):
            self.assertEqual(pair_turned(turn_for(pair, one, other)), (pair, one, other))

    def test_tips_change_none(self):
        for move in ALL_TIPS:
            with self.assertRaises(CanNot):
                pair_turned(move)

    def test_wrong_numbers(self):
        for args in ((2, 1, 1), (-1, 1, 1), (True, 1, 1), (0, 0, 1), (0, 1, 2), (0, True, 1), (0, 1, True),
                     (None, 1, 1)):
            with self.assertRaises(Unfit):
                turn_for(*args)


class Slants(unittest.TestCase):
    def test_there_and_back(self):
        for stand, goal in pairs_to_search(172, 100):
            slants = slants_between(stand, goal)
            self.assertEqual(stand_by_slants(stand, slants), goal)
            self.assertEqual(stand_by_slants(list(map(list, stand)), list(slants)), goal)

    def test_what_stand_they_lead_to(self):
        draw = Draw(173)
        for most in (3, 9, GREAT):
            for stand in draw.stands(40):
                slants = fit_slants(draw, most)
                goal = stand_by_slants(stand, slants)
                self.assertEqual(slants_between(stand, goal), slants)
                self.assertIs(can_turn_to(stand, goal), True)
                self.assertEqual(told_bars(stand, goal), [])

    def test_by_the_middle(self):
        """a s + b t is half of east + north, a e + b d half of east - north, for every CHEST."""
        for stand, goal in pairs_to_search(174, 40):
            s, d, t, e = slants_between(stand, goal)
            for chest in CHESTS:
                (x, y), (to_x, to_y) = Body.on(chest, stand).middle[:2], Body.on(chest, goal).middle[:2]
                a, b = chest[stand[0][0]], chest[stand[0][1]]
                self.assertEqual((2 * (a * s + b * t), 2 * (a * e + b * d)), (to_x - x + to_y - y, to_x - x - to_y + y))

    def test_pairs_one_odd_one_even(self):
        for slants in ((1, 0, 0, 0), (0, 1, 0, 0), (0, 0, 1, 0), (0, 0, 0, -1), (2, 3, 1, 1), (1, 1, 5, 4),
                       (GREAT, 1, 0, 0)):
            with self.assertRaises(CanNot):
                stand_by_slants(HOME, slants)
            with self.assertRaises(Unfit):
                stand_by_slants(HOME[:3], slants)

    def test_either_shape(self):
        """They are those of the SHAPE of the first STAND, whichever of both SHAPES the second one has."""
        for shape in ((0, 1, 2), (1, 0, 2)):
            for fronts in ALL_FRONTS:
                self.assertEqual(slants_between(HOME, (shape, (1, 3, 0), (1, -3, 0), fronts)), (1, 3, 0, 0))
                self.assertEqual(slants_between((shape, (0, 0, 0), (0, 0, 0), fronts),
                                                (HOME[0], (4, 1, 0), (0, 1, 0), HOME[3])),
                                 (2, 0, 1, 2) if shape == (0, 1, 2) else (1, 2, 2, 0))

    def test_without_slants(self):
        for shape in ALL_SHAPES:
            for xs, ys in (((0, 0, 0), (0, 0, 0)), ((1, 0, 0), (0, 0, 0)), ((0, 0, 0), (0, 1, 0)),
                           ((0, 0, 2), (0, 0, 0)), ((0, 0, 0), (0, 0, -2)), ((2, 3, 0), (4, 1, 0)),
                           ((0, 0, 1), (0, 0, 1)), ((1, 1, 0), (1, 1, 0)), ((1, 0, 0), (0, 1, 0))):
                goal = shape, xs, ys, (1, 1, 1)
                if {"shape", "upright", "half"} & set(told_bars(HOME, goal)):
                    with self.assertRaises(CanNot):
                        slants_between(HOME, goal)
                else:
                    self.assertEqual(len(slants_between(HOME, goal)), 4)
        with self.assertRaises(CanNot):
            slants_between(HOME, ((0, 1, 2), (GREAT, 1, 0), (0, 0, 0), (1, 1, 1)))


class BesideSearch(unittest.TestCase):
    def test_all_stands_near_each_shape(self):
        for stand in beginnings(181):
            for goal, turns in turns_within(stand, NEAR).items():
                self.assertEqual(fewest_turns(stand, goal), turns)
                self.assertEqual(fewest_turns(goal, stand), turns)
                self.assertIs(can_turn_to(stand, goal), True)

    def test_from_both_sides(self):
        searched = 0
        for stand, goal in pairs_to_search(182, 40):
            turns = fewest_from_both(turns_within(stand, NEAR), turns_within(goal, NEAR))
            told = fewest_turns(stand, goal)
            searched += turns is not None and turns > NEAR
            self.assertEqual(turns, told if told <= 2 * NEAR else None)
        self.assertGreater(searched, 5)

    def bent(self, draw, goal, times):
        """goal with a number, a FRONT or the SHAPE changed so many times."""
        shape, xs, ys, fronts = goal[0], list(goal[1]), list(goal[2]), goal[3]
        for _ in range(times):
            what = draw.chance.randrange(4)
            if what == 0:
                shape = draw.chance.choice(ALL_SHAPES)
            elif what == 1:
                fronts = draw.chance.choice(ALL_FRONTS)
            else:
                (xs, ys)[what - 2][draw.chance.randrange(3)] = draw.number(2)
        return shape, tuple(xs), tuple(ys), fronts

    def test_exactly_if_no_word_bars(self):
        """Xs and ys to 2: by slants of at most 2 each: four turns at the most."""
        draw = Draw(183)
        for start in ALL_SHAPES:
            stand = (start,) + HOME[1:]
            found = turns_within(stand, 4)
            near = sorted(own for own in found if max(map(abs, own[1] + own[2])) <= 2)
            reached = 0
            for _ in range(600):
                goal = self.bent(draw, draw.chance.choice(near), draw.chance.choice((0, 1, 1, 2)))
                told = told_bars(stand, goal)
                self.assertEqual(goal in found, not told)
                self.assertIs(can_turn_to(stand, goal), not told)
                reached += not told
                if told:
                    self.assertEqual(why_not_turned(stand, goal), min(told, key=WORDS.index))
                    for function in (fewest_turns, first_turns, turn_plan):
                        with self.assertRaises(CanNot):
                            function(stand, goal)
                    self.assertIs(is_turn_plan(stand, goal, ()), False)
                else:
                    with self.assertRaises(CanNot):
                        why_not_turned(stand, goal)
            self.assertTrue(100 < reached < 500, reached)

    def test_great_slants(self):
        """For each turn more, one more of the greater size of a pair."""
        draw = Draw(184)
        for stand in draw.stands(60):
            slants = fit_slants(draw, draw.chance.choice((9, GREAT)))
            first, second = [max(abs(own) for own in slants[at:at + 2]) for at in (0, 2)]
            goal = stand_by_slants(stand, slants)
            self.assertEqual(fewest_turns(stand, goal), first + second)
            self.assertEqual(fewest_turns(goal, stand), first + second)
            behind = [fewest_turns(stepped(stand, move), goal) for move in ALL_TURNS]
            self.assertTrue({abs(own - first - second) for own in behind} <= {1})


class Words(unittest.TestCase):
    def test_each(self):
        told = [
            ("shape", ((2, 1, 0), (1, 0, 0), (0, 0, 1), (1, 1, 1))),
            ("shape", ((0, 2, 1), (0, 0, 0), (0, 0, 0), (1, 1, 1))),
            ("upright", ((0, 1, 2), (1, 0, 2), (0, 0, 0), (1, 1, 1))),
            ("upright", ((1, 0, 2), (0, 0, 0), (0, 0, -1), (1, 1, 1))),
            ("half", ((0, 1, 2), (1, 0, 0), (0, 0, 0), (1, 1, 1))),
            ("half", ((1, 0, 2), (2, 0, 0), (0, 3, 0), (1, 1, -1))),
            ("odd", ((0, 1, 2), (2, 0, 0), (0, 0, 0), (1, 1, 1))),
            ("odd", ((1, 0, 2), (1, 0, 0), (1, 0, 0), (1, 1, -1))),
            ("way", ((1, 0, 2), (0, 0, 0), (0, 0, 0), (1, 1, 1))),
            ("way", ((0, 1, 2), (1, 3, 0), (1, -3, 0), (-1, 1, 1))),
            ("way", ((1, 0, 2), (0, 0, 0), (0, 0, 0), (1, 1, -1))),
            ("fronts", ((0, 1, 2), (0, 0, 0), (0, 0, 0), (1, 1, -1))),
            ("fronts", ((1, 0, 2), (1, 3, 0), (1, -3, 0), (1, 1, 1))),
            ("fronts", ((0, 1, 2), (GREAT, 0, 0), (0, 0, 0), (1, -1, 1))),
        ]
        for word, goal in told:
            self.assertEqual(why_not_turned(HOME, goal), word)
            self.assertIs(can_turn_to(HOME, goal), False)
        self.assertEqual({word for word, _ in told}, set(WORDS))

    def test_the_first_of_several(self):
        goal = ((1, 0, 2), (3, 1, 1), (0, 0, 1), (1, 1, -1))
        self.assertEqual(why_not_turned(HOME, ((2, 0, 1),) + goal[1:]), "shape")
        self.assertEqual(why_not_turned(HOME, goal), "upright")
        self.assertEqual(why_not_turned(HOME, (goal[0], (3, 1, 0), (0, 0, 0), goal[3])), "half")
        self.assertEqual(why_not_turned(HOME, (goal[0], (2, 0, 0), (0, 0, 0), goal[3])), "odd")
        self.assertEqual(why_not_turned(HOME, (goal[0], (4, 0, 0), (0, 0, 0), goal[3])), "way")
        self.assertEqual(why_not_turned(HOME, (HOME[0], (4, 0, 0), (0, 0, 0), goal[3])), "fronts")
        with self.assertRaises(CanNot):
            why_not_turned(HOME, (HOME[0], (4, 0, 0), (0, 0, 0), HOME[3]))


class Plans(unittest.TestCase):
    def test_walked(self):
        for stand, goal in pairs_to_search(191, 100):
            row = turn_plan(stand, goal)
            self.assertEqual(walked(stand, row), goal)
            self.assertEqual(len(row), fewest_turns(stand, goal))
            self.assertTrue(all(move in ALL_TURNS for move in row))
            self.assertIs(is_turn_plan(stand, goal, row), True)
            self.assertIs(is_turn_plan(stand, goal, list(row)), False)

    def test_first_turns_beside_all_shortest_rows(self):
        draw = Draw(192)
        for stand in beginnings(192):
            near = turns_within(stand, 5)
            for goal in draw.chance.sample(sorted(near), 25):
                rows = all_shortest(stand, turns_within(goal, 5), ALL_TURNS)
                self.assertEqual(first_turns(stand, goal), tuple(sorted({row[0] for row in rows if row})))
                self.assertIn(turn_plan(stand, goal), rows)

    def test_first_turns_beside_the_fewest_behind_each_turn(self):
        for stand, goal in pairs_to_search(193, 60):
            turns = fewest_turns(stand, goal)
            nearer = [move for move in ALL_TURNS if fewest_turns(stepped(stand, move), goal) == turns - 1]
            self.assertEqual(first_turns(stand, goal), tuple(nearer))

    def test_is_turn_plan_beside_all_rows(self):
        draw = Draw(194)
        for many in (1, 2, 3):
            goal = walked(HOME, draw.row(many, ALL_TURNS))
            rows = all_shortest(HOME, turns_within(goal, 3), ALL_TURNS)
            for row in itertools.product(ALL_TURNS, repeat=len(rows[0])):
                self.assertIs(is_turn_plan(HOME, goal, row), row in rows)

    def test_up_to_2000(self):
        draw = Draw(195)
        for slants in ((2000, 0, 0, 0), (1000, -400, 2, 1000), (0, 0, -1999, 1), (1, 1, 1999, -3),
                       (-7, 999, 1001, 1001)):
            for stand in draw.stands(4):
                goal = stand_by_slants(stand, slants)
                row = turn_plan(stand, goal)
                self.assertIn(len(row), (1999, 2000))
                self.assertEqual(walked(stand, row), goal)
                self.assertIs(is_turn_plan(stand, goal, row), True)

    def test_more_than_2000(self):
        for slants in ((2001, 1, 0, 0), (1, 1, 2000, 0), (1002, 0, 1000, 0), (GREAT, -GREAT, GREAT, GREAT)):
            goal = stand_by_slants(HOME, slants)
            self.assertGreater(fewest_turns(HOME, goal), 2000)
            with self.assertRaises(TooMany):
                turn_plan(HOME, goal)
            self.assertIs(is_turn_plan(HOME, goal, ()), False)
        # What has more than 2,000 MOVES is none, though it leads there.
        row = (("turn", 2, -1),) * 2001
        goal = walked(HOME, row)
        self.assertEqual(fewest_turns(HOME, goal), 2001)
        self.assertIs(is_turn_plan(HOME, goal, row), False)
        self.assertIs(is_turn_plan(HOME, walked(HOME, row[1:]), row[1:]), True)

    def test_what_is_no_turn_plan(self):
        goal = walked(HOME, (("turn", 2, 1),))
        self.assertIs(is_turn_plan(HOME, goal, (("turn", 2, 1),)), True)
        for thing in ([("turn", 2, 1)], (["turn", 2, 1],), (("turn", 2, True),), (("turn", 2, -1),),
                      (("turn", 2, 1),) * 5, (), None, True, "turn", ("turn", 2, 1), (("turn", 2, 1), None),
                      (("turn", 2),), (("tip", 1), ("tip", 0), ("tip", 3))):
            self.assertIs(is_turn_plan(HOME, goal, thing), False, thing)
        # It leads there, by more turns than are needed, or by tips as well.
        for row in ((("turn", 2, 1), ("turn", 0, 1), ("turn", 1, -1)), (("turn", 2, 1), ("tip", 0), ("tip", 2))):
            self.assertEqual(walked(HOME, row), goal)
            self.assertIs(is_turn_plan(HOME, goal, row), False)
        self.assertIs(is_turn_plan(HOME, HOME[:3] + ((1, 1, -1),), ()), False)
        with self.assertRaises(Unfit):
            is_turn_plan(HOME, HOME[:3], ())

    def test_stand_and_goal_one(self):
        for stand in beginnings(196):
            self.assertEqual((fewest_turns(stand, stand), first_turns(stand, stand), turn_plan(stand, stand)),
                             (0, (), ()))
            self.assertEqual((slants_between(stand, stand), stand_by_slants(stand, (0, 0, 0, 0))),
                             ((0, 0, 0, 0), stand))
            self.assertIs(is_turn_plan(stand, stand, ()), True)
            self.assertIs(is_turn_plan(stand, stand, []), False)

    def test_cannot_stands_ahead_of_too_many(self):
        with self.assertRaises(CanNot):
            turn_plan(HOME, ((0, 1, 2), (4 * GREAT + 2, 0, 0), (0, 0, 0), (1, 1, 1)))


if __name__ == "__main__":
    unittest.main()
