"""[11]: the fewest tips, beside searches from both sides and all shortest ROWS."""

import itertools
import unittest

from movedchest.counts import counts_between, size_of, stand_by
from movedchest.errors import CanNot, TooMany, Unfit
from movedchest.fewest import fewest_tips, first_tips, gone_by, is_plan, plan, spare_tips, sure_links
from tests.drawn import ALL_FRONTS, ALL_SHAPES, ALL_TIPS, ALL_TURNS, GREAT, HOME, Draw
from tests.search import all_shortest, fewest_from_both, stepped, tips_within, walked
from tests.tipping import faces_of, links_of

NEAR = 7
ASKEW = ((0, 1, 2), (1, 0, 1), (0, 0, 0), (1, 1, 1))
FAR = ((0, 1, 2), (0, 2, 2), (0, 0, 0), (1, -1, -1))
EAST, NORTH, WEST, SOUTH = ALL_TIPS


def beginnings(seed):
    """A STAND of each of the six SHAPES."""
    draw = Draw(seed)
    for shape in ALL_SHAPES:
        _, xs, ys, fronts = draw.stand(draw.chance.choice((9, GREAT)))
        yield shape, xs, ys, fronts


def pairs_to_search(seed, many):
    """So many pairs of STANDS of which tips lead from one to the other, some by more tips than are searched."""
    draw = Draw(seed)
    for _ in range(many):
        stand = draw.stand()
        yield stand, walked(stand, draw.tips(draw.chance.randint(0, 24)))


def links_over(stand, row):
    return links_of(faces_of(stand[0]), [way for _, way in row])


class BesideSearch(unittest.TestCase):
    def test_all_stands_near_each_shape(self):
        for stand in beginnings(111):
            for goal, tips in tips_within(stand, NEAR).items():
                self.assertEqual(fewest_tips(stand, goal), tips)
                self.assertEqual(fewest_tips(goal, stand), tips)

    def test_from_both_sides(self):
        searched = 0
        for stand, goal in pairs_to_search(112, 60):
            tips = fewest_from_both(tips_within(stand, NEAR), tips_within(goal, NEAR))
            told = fewest_tips(stand, goal)
            self.assertEqual(fewest_tips(goal, stand), told)
            if tips is None:
                self.assertGreater(told, 2 * NEAR)
            else:
                searched += tips > NEAR
                self.assertEqual(told, tips)
        self.assertGreater(searched, 10)

    def test_no_fewer_where_no_search_comes(self):
        """Each STAND in reach has at most 4 tips more than its COUNTS' sizes; what is told as nearer was found."""
        draw = Draw(113)
        found = tips_within(HOME, NEAR + 2)
        cannot = 0
        for _ in range(3000):
            goal = draw.stand(2)
            try:
                tips = fewest_tips(HOME, goal)
            except CanNot:
                cannot += 1
                self.assertNotIn(goal, found)
                continue
            self.assertEqual(found.get(goal, NEAR + 3), min(tips, NEAR + 3))
        self.assertGreater(cannot, 1000)

    def test_one_tip_is_one_less_far_or_one_further(self):
        for stand, goal in pairs_to_search(114, 60):
            tips = fewest_tips(stand, goal)
            for move in ALL_TIPS:
                self.assertEqual(abs(fewest_tips(stepped(stand, move), goal) - tips), 1)

    def test_great_counts(self):
        """Of a COUNT that is greater by so many times four, the fewest tips are more by as many."""
        draw = Draw(115)
        for stand, goal in pairs_to_search(116, 40):
            counts, tips = counts_between(stand, goal), fewest_tips(stand, goal)
            for link in range(6):
                if counts[link] == 0:
                    continue
                more = 4 * draw.chance.randint(1, 10 ** 11) * (1 if counts[link] > 0 else -1)
                further = stand_by(stand, goal[0], counts[:link] + (counts[link] + more,) + counts[link + 1:])
                self.assertEqual(fewest_tips(stand, further), tips + abs(more))
                self.assertEqual(spare_tips(stand, further), spare_tips(stand, goal))
                self.assertEqual(sure_links(stand, further), sure_links(stand, goal))
                self.assertEqual(max(gone_by(stand, further)), max(abs(counts[link] + more), 2))

    def test_spare_tips(self):
        seen = set()
        for stand, goal in pairs_to_search(117, 150):
            spare = spare_tips(stand, goal)
            seen.add(spare)
            self.assertEqual(spare, fewest_tips(stand, goal) - size_of(counts_between(stand, goal)))
        self.assertEqual(seen, {0, 2, 4})
        for goal in tips_within(HOME, NEAR):
            self.assertIn(spare_tips(HOME, goal), (0, 2, 4))


class BesideAllShortestRows(unittest.TestCase):
    def goals(self, seed, most=6, many=40):
        """Triples (stand, goal, all shortest ROWS)."""
        draw = Draw(seed)
        for stand in beginnings(seed):
            near = tips_within(stand, most)
            for goal in draw.chance.sample(sorted(near), many):
                yield stand, goal, all_shortest(stand, tips_within(goal, most), ALL_TIPS)

    def test_first_tips(self):
        for stand, goal, rows in self.goals(121):
            self.assertEqual(first_tips(stand, goal), tuple(sorted({row[0][1] for row in rows if row})))

    def test_first_tips_beside_the_fewest_behind_each_tip(self):
        for stand, goal in pairs_to_search(122, 60):
            tips = fewest_tips(stand, goal)
            nearer = [way for way in range(4) if fewest_tips(stepped(stand, ("tip", way)), goal) == tips - 1]
            self.assertEqual(first_tips(stand, goal), tuple(nearer))
            self.assertEqual(first_tips(stand, goal) == (), stand == goal)

    def test_sure_links_and_gone_by(self):
        for stand, goal, rows in self.goals(123):
            often = [[links_over(stand, row).count(link) for link in range(6)] for row in rows]
            sure = tuple(link for link in range(6) if all(own[link] > 0 for own in often))
            self.assertEqual(sure_links(stand, goal), sure)
            self.assertEqual(gone_by(stand, goal), tuple(max(own[link] for own in often) for link in range(6)))

    def test_plan_is_one_of_them(self):
        for stand, goal, rows in self.goals(124):
            self.assertIn(plan(stand, goal), rows)

    def test_is_plan_beside_all_rows(self):
        for stand, goal, rows in self.goals(125, 4, 4):
            for row in itertools.product(ALL_TIPS, repeat=len(rows[0])):
                self.assertIs(is_plan(stand, goal, row), row in rows)


class Plans(unittest.TestCase):
    def test_walked(self):
        for stand, goal in pairs_to_search(131, 60):
            row = plan(stand, goal)
            self.assertEqual(walked(stand, row), goal)
            self.assertEqual(len(row), fewest_tips(stand, goal))
            self.assertIs(is_plan(stand, goal, row), True)

    def test_up_to_2000(self):
        draw = Draw(132)
        told = [((0, 1, 2), (2000, 0, 0, 0, 0, 0)), ((0, 1, 2), (0, 0, 1996, 0, 0, 0)),
                ((2, 1, 0), (1999, 0, 0, 0, 0, 0)), ((0, 1, 2), (334, -334, 334, 332, -332, 334)),
                ((0, 1, 2), (0, -998, 0, 0, 998, 0)), ((0, 1, 2), (333, 333, -333, 333, 333, 335)),
                ((2, 0, 1), (-501, 499, 0, 998, 0, 0))]
        for shape, counts in told:
            for _, xs, ys, fronts in draw.stands(3):
                stand = HOME[0], xs, ys, fronts
                goal = stand_by(stand, shape, counts)
                self.assertIn(fewest_tips(stand, goal), (1999, 2000))
                row = plan(stand, goal)
                self.assertEqual(len(row), fewest_tips(stand, goal))
                self.assertEqual(walked(stand, row), goal)
                self.assertIs(is_plan(stand, goal, row), True)

    def test_more_than_2000(self):
        told = [((0, 1, 2), (2002, 0, 0, 0, 0, 0)), ((0, 1, 2), (0, 0, 1998, 0, 0, 0)),
                ((2, 1, 0), (2001, 0, 0, 0, 0, 0)), ((2, 1, 0), (-2001, 0, 0, 0, 0, 0)),
                ((0, 1, 2), (GREAT,) * 6), ((0, 1, 2), (333, 333, 333, 333, 333, 337))]
        for shape, counts in told:
            goal = stand_by(HOME, shape, counts)
            self.assertGreater(fewest_tips(HOME, goal), 2000)
            with self.assertRaises(TooMany):
                plan(HOME, goal)
            self.assertIs(is_plan(HOME, goal, ()), False)
        # A thing is a ROW however long it is.
        goal = walked(HOME, (EAST,) * 2002)
        self.assertIs(is_plan(HOME, goal, (EAST,) * 2002), True)
        self.assertIs(is_plan(HOME, goal, (EAST,) * 2002 + (WEST, EAST)), False)

    def test_what_is_no_plan(self):
        goal = walked(HOME, (EAST, NORTH))
        self.assertIs(is_plan(HOME, goal, (EAST, NORTH)), True)
        for thing in ([EAST, NORTH], (["tip", 0], NORTH), (EAST, ("tip", True)), (("tip", False), NORTH), (NORTH, EAST),
                      (EAST,), (EAST, NORTH, NORTH, SOUTH), (EAST, ("tip", 5)), (EAST, None), None, True, 2, "tip",
                      (), [], (EAST, ("turn", 0, 1)), ("tip", 0), ((EAST, NORTH),), (EAST, "north"),
                      (EAST, ("tip", "1"))):
            self.assertIs(is_plan(HOME, goal, thing), False, thing)
        # One turn leads there, three tips: a turn is no plan.
        goal = walked(HOME, (("turn", 2, 1),))
        self.assertEqual(fewest_tips(HOME, goal), 3)
        self.assertIs(is_plan(HOME, goal, (NORTH, EAST, SOUTH)), True)
        for row in itertools.product(ALL_TURNS, repeat=3):
            self.assertIs(is_plan(HOME, goal, row), False)


class Edges(unittest.TestCase):
    def test_stand_and_goal_one(self):
        for stand in beginnings(141):
            self.assertEqual((fewest_tips(stand, stand), first_tips(stand, stand), plan(stand, stand)), (0, (), ()))
            self.assertEqual((spare_tips(stand, stand), sure_links(stand, stand)), (0, ()))
            self.assertEqual(gone_by(stand, stand), (0, 0, 0, 0, 0, 0))
            self.assertIs(is_plan(stand, stand, ()), True)
            self.assertIs(is_plan(stand, stand, []), False)
            self.assertIs(is_plan(stand, stand, (EAST, WEST)), False)

    def test_no_free_stretch(self):
        goal = stand_by(HOME, HOME[0], (1, -1, 3, 1, -1, 1))
        self.assertEqual((fewest_tips(HOME, goal), spare_tips(HOME, goal)), (8, 0))
        self.assertEqual((sure_links(HOME, goal), gone_by(HOME, goal)), ((0, 1, 2, 3, 4, 5), (1, 1, 3, 1, 1, 1)))

    def test_one_link_gone(self):
        """From position 0, so far round to the LINK and back, the shorter way."""
        told = [((0,), 2), ((0, 1), 4), ((0, 1, 2), 6), ((3, 4, 5), 6), ((4, 5), 4), ((5,), 2)]
        for link, (gone, tips) in enumerate(told):
            goal = stand_by(HOME, HOME[0], tuple(2 if own == link else 0 for own in range(6)))
            self.assertEqual((fewest_tips(HOME, goal), sure_links(HOME, goal)), (tips, gone))
            self.assertEqual(gone_by(HOME, goal), tuple(2 if own in gone else 0 for own in range(6)))

    def test_several_longest_free_stretches(self):
        """One gone both ways round: either half of the RING can be left."""
        goal = stand_by(HOME, HOME[0], (2, 0, 0, 2, 0, 0))
        self.assertEqual((fewest_tips(HOME, goal), sure_links(HOME, goal)), (8, (0, 3)))
        self.assertEqual(gone_by(HOME, goal), (2, 2, 2, 2, 2, 2))
        goal = stand_by(HOME, HOME[0], (0, 0, 2, 0, 0, 2))
        self.assertEqual((fewest_tips(HOME, goal), sure_links(HOME, goal)), (8, (2, 5)))
        self.assertEqual((first_tips(HOME, goal), gone_by(HOME, goal)), ((0, 1, 2), (2, 2, 2, 2, 2, 2)))

    def test_no_row_of_tips_leads_there(self):
        goals = [ASKEW, (HOME[0], (1, 0, 0), (0, 0, 0), (1, 1, 1)), (HOME[0], (0, 0, 0), (0, 1, 0), (1, 1, 1)),
                 ((2, 1, 0), (0, 0, 0), (0, 0, 0), (1, 1, 1)), (HOME[0], (GREAT, 1, 0), (0, 0, 0), (1, 1, 1))]
        goals += [HOME[:3] + (fronts,) for fronts in ALL_FRONTS if fronts != HOME[3]]
        for goal in goals:
            for function in (fewest_tips, first_tips, plan, spare_tips, sure_links, gone_by):
                with self.assertRaises(CanNot):
                    function(HOME, goal)
                with self.assertRaises(CanNot):
                    function(goal, HOME)
            for thing in ((), None, (EAST, EAST), True):
                with self.assertRaises(CanNot):
                    is_plan(HOME, goal, thing)
            for function in (fewest_tips, plan):
                with self.assertRaises(Unfit):
                    function(goal, None)

    def test_cannot_stands_ahead_of_too_many(self):
        with self.assertRaises(CanNot):
            plan(HOME, (HOME[0], (GREAT, 0, GREAT), (0, 0, 0), (1, 1, -1)))

    def test_numbers_at_the_bounds(self):
        least = (0, 1, 2), (-GREAT,) * 3, (-GREAT,) * 3, (1, 1, 1)
        most = (0, 1, 2), (GREAT,) * 3, (GREAT,) * 3, (1, 1, 1)
        self.assertEqual(fewest_tips(least, most), 6 * GREAT)
        self.assertEqual((spare_tips(least, most), gone_by(most, least)), (0, (GREAT,) * 6))
        self.assertEqual(fewest_tips(HOME, FAR), 6)


if __name__ == "__main__":
    unittest.main()
