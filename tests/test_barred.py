"""[12]: BARS and STAKES, beside searches and by what the document tells of each."""

import itertools
import unittest

from movedchest.barred import (
    bars, can_tip_to, is_why_no_fewer, is_why_not, stakes, tips_told, why_no_fewer, why_not,
)
from movedchest.counts import counts_between, stand_by
from movedchest.errors import CanNot, Unfit
from movedchest.fewest import fewest_tips
from tests.drawn import ALL_FRONTS, ALL_SHAPES, GREAT, HOME, Draw
from tests.search import tips_within, walked
from tests.tipping import RING, come_to, stretches_told

LINK_SIDES = (1, 2, 0, 1, 2, 0)
LINK_SETS = [own for many in range(7) for own in itertools.combinations(range(6), many)]
ALL_BARS = (
    [("sum", 0), ("sum", 1)] + [("odd", own) for own in LINK_SETS] + [("front", side) for side in range(3)]
)
FLAT = (0,) * 6
FAR = ((0, 1, 2), (0, 2, 2), (0, 0, 0), (1, -1, -1))


def small_counts(most):
    """All COUNTS of which the sizes come to at most so many together."""
    return [own for own in itertools.product(range(-most, most + 1), repeat=6) if sum(map(abs, own)) <= most]


def shifted(stand, shape, counts, fronts):
    """The STAND of this SHAPE and these FRONTS with these COUNTS from stand, whether tips lead there or not."""
    more = [[0, 0, 0], [0, 0, 0]]
    for link, count in enumerate(counts):
        for side in range(3):
            more[link % 2][side] += 0 if side == LINK_SIDES[link] else count
    xs, ys = [tuple(a + b for a, b in zip(stand[1 + line], more[line])) for line in (0, 1)]
    return shape, xs, ys, fronts


def arc_sets(shape, other):
    start, end = RING.index(shape), RING.index(other)
    onward, at = set(), start
    while at != end:
        onward.add(at)
        at = (at + 1) % 6
    return onward, set(range(6)) - onward


class BesideSearch(unittest.TestCase):
    def check(self, stand, most):
        """Tips that lead anywhere are at most 4 more than the sizes of the COUNTS: so a search decides."""
        found = tips_within(stand, most + 4)
        seen = {True: 0, False: 0}
        for counts in small_counts(most):
            for shape in ALL_SHAPES:
                for fronts in ALL_FRONTS:
                    goal = shifted(stand, shape, counts, fronts)
                    self.assertIs(can_tip_to(stand, goal), goal in found)
                    self.assertEqual(bars(stand, goal) == [], goal in found)
                    seen[goal in found] += 1
        self.assertTrue(min(seen.values()) >= 5)

    def test_home(self):
        self.check(HOME, 3)

    def test_each_shape(self):
        draw = Draw(151)
        for shape in ALL_SHAPES:
            _, xs, ys, fronts = draw.stand(GREAT)
            self.check((shape, xs, ys, fronts), 1)

    def test_odd_sums(self):
        found = tips_within(HOME, 8)
        for own in found:
            self.assertEqual((sum(own[1]) % 2, sum(own[2]) % 2), (0, 0))
        draw = Draw(152)
        for _ in range(300):
            stand, goal = draw.stand(), draw.stand(draw.chance.choice((4, GREAT)))
            odd = [("sum", line) for line in (0, 1) if (sum(stand[1 + line]) + sum(goal[1 + line])) % 2 == 1]
            if odd:
                self.assertEqual(bars(stand, goal), odd)
                self.assertIs(can_tip_to(stand, goal), False)
            else:
                self.assertNotIn("sum", [word for word, _ in bars(stand, goal)])


class Bars(unittest.TestCase):
    def test_odd_links_and_fronts(self):
        for stand in [HOME, ((1, 0, 2), (3, -4, 5), (0, 1, 1), (1, -1, 1))]:
            told = {own: fronts for own, (_, fronts) in come_to(stand[0], 8).items()}
            for counts in small_counts(2):
                odd = tuple(link for link in range(6) if counts[link] % 2)
                for shape, fronts in itertools.product(ALL_SHAPES, ALL_FRONTS):
                    goal = shifted(stand, shape, counts, fronts)
                    if set(odd) not in arc_sets(stand[0], shape):
                        self.assertEqual(bars(stand, goal), [("odd", odd)])
                        continue
                    own = [a * b for a, b in zip(stand[3], told[shape, counts])]
                    self.assertEqual(bars(stand, goal), [("front", n) for n in range(3) if fronts[n] != own[n]])

    def test_why_not_is_the_first(self):
        draw = Draw(153)
        words = set()
        for _ in range(400):
            stand, goal = draw.stand(4), draw.stand(4)
            found = bars(stand, goal)
            words.add(tuple(sorted({word for word, _ in found})))
            if found:
                self.assertEqual(why_not(stand, goal), found[0])
            else:
                with self.assertRaises(CanNot):
                    why_not(stand, goal)
        # Never BARS of two words together.
        self.assertTrue(words <= {(), ("sum",), ("odd",), ("front",)})
        self.assertTrue(words >= {("sum",), ("odd",)})

    def test_is_why_not_beside_all_bars(self):
        draw = Draw(154)
        goals = [draw.stand(3) for _ in range(30)]
        goals += [HOME[:3] + (fronts,) for fronts in ALL_FRONTS] + [FAR, ((2, 1, 0), (3, 0, 3), (0, 0, 0), (-1, 1, 1))]
        for goal in goals:
            found = bars(HOME, goal)
            for own in ALL_BARS:
                self.assertIs(is_why_not(HOME, goal, own), own in found)

    def test_what_is_no_bar(self):
        askew = ((0, 1, 2), (1, 0, 0), (0, 1, 0), (1, 1, 1))
        for thing in (("sum", 0), ("sum", 1)):
            self.assertIs(is_why_not(HOME, askew, thing), True)
        for thing in (["sum", 0], ("sum", False), ("sum", True), ("sum", 2), ("sum",), ("sum", 0, 0), ("sum", (0,)),
                      "sum", 0, None, True, (), [], (("sum", 0),), ("sum", "0"), ("sum", None), (0, "sum"),
                      ("odd", ())):
            self.assertIs(is_why_not(HOME, askew, thing), False, thing)
        wrong = ((0, 1, 2), (1, 0, 1), (0, 0, 0), (1, 1, 1))
        self.assertIs(is_why_not(HOME, wrong, ("odd", (0,))), True)
        for thing in (("odd", [0]), ("odd", (False,)), ("odd", 0), ("odd", ()), ("odd", (0, 0)), ("odd", (0, 1)),
                      ["odd", (0,)], ("odd", ("0",)), ("odd", ((0,),)), ("odd", None)):
            self.assertIs(is_why_not(HOME, wrong, thing), False, thing)
        faced = HOME[:3] + ((1, -1, 1),)
        self.assertIs(is_why_not(HOME, faced, ("front", 1)), True)
        for thing in (("front", True), ("front", 0), ("front", -2), ["front", 1], ("front", (1,))):
            self.assertIs(is_why_not(HOME, faced, thing), False, thing)

    def test_two_lines_and_several_sides(self):
        self.assertEqual(bars(HOME, (HOME[0], (1, 0, 0), (0, 0, 0), HOME[3])), [("sum", 0)])
        self.assertEqual(bars(HOME, (HOME[0], (0, 0, 0), (0, 0, -1), HOME[3])), [("sum", 1)])
        self.assertEqual(bars(HOME, ((2, 1, 0), (1, 1, 1), (0, 3, 0), (1, -1, 1))), [("sum", 0), ("sum", 1)])
        self.assertEqual(bars(HOME, HOME[:3] + ((-1, -1, -1),)), [("front", 0), ("front", 1), ("front", 2)])
        self.assertEqual(bars(HOME, ((2, 1, 0),) + HOME[1:]), [("odd", ())])
        self.assertEqual(bars(HOME, HOME), [])

    def test_seen_from_sums_however_great(self):
        """COUNTS that are more by multiples of four are as odd, and tell the same FRONTS."""
        draw = Draw(155)
        for _ in range(100):
            stand, goal = draw.stand(4), draw.stand(4)
            for line, side in itertools.product((1, 2), range(3)):
                numbers = list(goal[line])
                numbers[side] += 8 * draw.number(10 ** 11)
                great = goal[:line] + (tuple(numbers),) + goal[line + 1:]
                self.assertEqual(bars(stand, great), bars(stand, goal))


class Stakes(unittest.TestCase):
    def longest_stretches(self, shape, other, counts):
        """Each longest free stretch, as a set."""
        runs = stretches_told(shape, other, counts)
        most = max(map(len, runs))
        return {run for run in runs if len(run) == most}

    def test_beside_all_stretches(self):
        draw = Draw(161)
        several = 0
        for number, stand in enumerate(draw.stands(200)):
            goal = walked(stand, draw.tips(draw.chance.randint(0, 12)))
            if number % 2:
                goal = stand_by(stand, stand[0], [draw.chance.choice((0, 0, 2)) for _ in range(6)])
            counts = counts_between(stand, goal)
            told = self.longest_stretches(stand[0], goal[0], counts)
            several += len(told) > 1
            self.assertEqual(stakes(stand, goal), sorted((counts, own) for own in told))
            self.assertIn(why_no_fewer(stand, goal), stakes(stand, goal))
            for own in LINK_SETS:
                self.assertIs(is_why_no_fewer(stand, goal, (counts, own)), own in told)
        self.assertGreater(several, 10)

    def test_they_tell_the_fewest_tips(self):
        for shape in ALL_SHAPES:
            stand = (shape,) + HOME[1:]
            for goal, tips in tips_within(stand, 6).items():
                self.assertEqual({tips_told(own) for own in stakes(stand, goal)}, {tips})
                self.assertEqual(fewest_tips(stand, goal), tips)

    def test_bent(self):
        draw = Draw(162)
        for stand in draw.stands(40):
            goal = walked(stand, draw.tips(10))
            for counts, stretch in stakes(stand, goal):
                self.assertIs(is_why_no_fewer(stand, goal, (counts, stretch)), True)
                bent = [(list(counts), stretch), (counts, list(stretch)), [counts, stretch], (counts, stretch, ()),
                        (stretch, counts), (counts,), (tuple(-own for own in counts) + (0,), stretch),
                        (counts, stretch + (5,)), (counts, None), (counts[:5], stretch), ((counts, stretch),)]
                bent += [(counts[:n] + (counts[n] + more,) + counts[n + 1:], stretch) for n in range(6)
                         for more in (1, -1, 2)]
                bent += [(tuple(bool(own) if own in (0, 1) else str(own) for own in counts), stretch)]
                if stretch:
                    bent += [(counts, stretch[:-1]), (counts, stretch[1:]), (counts, stretch[:-1] + (stretch[-1] + 6,))]
                if len(stretch) > 1:
                    bent += [(counts, stretch[::-1]), (counts, stretch + stretch[-1:])]
                for thing in bent:
                    self.assertIs(is_why_no_fewer(stand, goal, thing), False, thing)

    def test_where_no_row_leads(self):
        for goal in (HOME[:3] + ((1, 1, -1),), (HOME[0], (1, 0, 0), (0, 0, 0), HOME[3]), ((2, 1, 0),) + HOME[1:]):
            self.assertEqual(stakes(HOME, goal), [])
            self.assertIs(is_why_no_fewer(HOME, goal, (FLAT, (0, 1, 2, 3, 4, 5))), False)
            with self.assertRaises(CanNot):
                why_no_fewer(HOME, goal)
            with self.assertRaises(Unfit):
                why_no_fewer(goal, HOME[:3])

    def test_a_bar_or_a_stake_never_both(self):
        draw = Draw(163)
        for _ in range(300):
            stand, goal = draw.stand(2), draw.stand(2)
            self.assertNotEqual(bars(stand, goal) == [], stakes(stand, goal) == [])

    def test_edges(self):
        for shape in ALL_SHAPES:
            stand = (shape,) + HOME[1:]
            self.assertEqual(stakes(stand, stand), [(FLAT, (0, 1, 2, 3, 4, 5))])
        every = stand_by(HOME, HOME[0], (1, 1, 1, -1, 1, 3))
        self.assertEqual(stakes(HOME, every), [((1, 1, 1, -1, 1, 3), ())])
        halves = stand_by(HOME, HOME[0], (2, 0, 0, 2, 0, 0))
        self.assertEqual(stakes(HOME, halves), [((2, 0, 0, 2, 0, 0), (1, 2)), ((2, 0, 0, 2, 0, 0), (4, 5))])
        great = stand_by(HOME, HOME[0], (GREAT, 0, 0, 0, 0, -GREAT))
        self.assertEqual(stakes(HOME, great), [((GREAT, 0, 0, 0, 0, -GREAT), (1, 2, 3, 4))])
        self.assertEqual(tips_told(stakes(HOME, great)[0]), 2 * GREAT)

    def test_told_whatever_it_holds_for(self):
        draw = Draw(164)
        for _ in range(50):
            counts = draw.counts(draw.chance.choice((1, 2, GREAT)))
            for stretch in LINK_SETS:
                told = 0
                for link, count in enumerate(counts):
                    told += max(count, -count) if count else (0 if link in stretch else 2)
                self.assertEqual(tips_told((counts, stretch)), told)
                self.assertEqual(tips_told([list(counts), list(stretch)]), told)


if __name__ == "__main__":
    unittest.main()
