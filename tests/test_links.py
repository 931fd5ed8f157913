"""[10]: LINKS gone over, free stretches, walks."""

import itertools
import unittest

from movedchest.counts import can_lead, counts_of, size_of
from movedchest.errors import CanNot, TooMany, Unfit
from movedchest.links import (
    can_go, free_links, free_stretches, fronts_by, gap, gone_links, is_walk_for, often_gone, walk_for,
)
from movedchest.rows import behind
from tests.drawn import ALL_SHAPES, GREAT, HOME, Draw
from tests.tipping import RING, come_to, faces_of, links_of, walks

FLAT = (0,) * 6
DEPTH = 7


def all_stretches(shape, other, counts):
    """All free stretches, by trying each run of LINKS."""
    found = set()
    for first, many in itertools.product(range(6), range(1, 7)):
        run = tuple((first + n) % 6 for n in range(many))
        ends = RING[first], RING[(first + many) % 6]
        inside = [RING[(first + n) % 6] for n in range(1, many)]
        free = all(counts[link] == 0 for link in run)
        if many == 6:
            fits = shape == other == ends[0]
        else:
            fits = shape not in inside and other not in inside
        if free and fits:
            found.add(run)
    return found


def longest_ones(stretches):
    """Those that are part of no longer one."""
    return {own for own in stretches if not any(set(own) < set(other) for other in stretches)}


def is_walk(shape, other, often, walk):
    """Whether walk is one from shape to other, over each LINK just so often."""
    here = shape
    for link in walk:
        ends = [RING[link], RING[(link + 1) % 6]]
        if here not in ends:
            return False
        here = ends[1 - ends.index(here)]
    return here == other and [walk.count(link) for link in range(6)] == list(often)


class Gone(unittest.TestCase):
    def test_beside_faces_in_space(self):
        draw = Draw(101)
        for stand in draw.stands(60):
            row = draw.tips(draw.chance.randint(0, 20))
            gone = links_of(faces_of(stand[0]), [way for _, way in row])
            often, counts = often_gone(stand, row), counts_of(stand, row)
            self.assertEqual(often, tuple(gone.count(link) for link in range(6)))
            self.assertEqual(gone_links(stand, row), tuple(sorted(set(gone))))
            for many, count in zip(often, counts):
                self.assertEqual(many % 2, count % 2)
                self.assertGreaterEqual(many, abs(count))
            self.assertIs(can_go(stand[0], behind(stand, row)[0], often), True)
            self.assertIs(is_walk_for(stand[0], behind(stand, row)[0], often, tuple(gone)), True)

    def test_nothing_gone_and_much(self):
        self.assertEqual((often_gone(HOME, ()), gone_links(HOME, ())), (FLAT, ()))
        self.assertEqual(often_gone(HOME, (("tip", 3),) * 2000), (0, 0, 0, 0, 0, 2000))

    def test_a_turn_in_it(self):
        for row in ((("turn", 0, 1),), (("tip", 0), ("turn", 2, -1)), (("turn", 2, -1), ("tip", 1))):
            for function in (often_gone, gone_links):
                with self.assertRaises(CanNot):
                    function(HOME, row)


class Free(unittest.TestCase):
    def test_beside_all_runs(self):
        for shape in ALL_SHAPES:
            for other in ALL_SHAPES:
                for counts in itertools.product((0, 3), repeat=6):
                    every = all_stretches(shape, other, counts)
                    self.assertEqual(free_links(counts), tuple(n for n in range(6) if counts[n] == 0))
                    self.assertEqual(free_stretches(shape, other, counts), tuple(sorted(longest_ones(every))))
                    self.assertEqual(gap(shape, other, counts), max(map(len, every), default=0))

    def test_all_six(self):
        for start, shape in enumerate(RING):
            whole = tuple((start + n) % 6 for n in range(6))
            self.assertEqual((free_stretches(shape, shape, FLAT), gap(shape, shape, FLAT)), ((whole,), 6))
            for other in ALL_SHAPES:
                if other != shape:
                    self.assertLess(gap(shape, other, FLAT), 6)
                self.assertEqual(gap(shape, other, (1, -1, 2, -2, GREAT, 9)), 0)
                self.assertEqual(free_stretches(shape, other, (1, -1, 2, -2, GREAT, 9)), ())

    def test_the_fewest_tips(self):
        """Of COUNTS that lead: size_of, and two for each LINK of COUNT 0 but gap of them."""
        for shape in ALL_SHAPES:
            for (other, counts), (tips, _) in come_to(shape, DEPTH).items():
                more = 2 * (len(free_links(counts)) - gap(shape, other, counts))
                self.assertEqual(size_of(counts) + more, tips)

    def test_no_fewer_tips_than_told(self):
        found = come_to(HOME[0], DEPTH)
        for counts in itertools.product((-2, -1, 0, 1, 2), repeat=6):
            for other in ALL_SHAPES:
                if size_of(counts) <= DEPTH and can_lead(HOME[0], other, counts):
                    told = size_of(counts) + 2 * (len(free_links(counts)) - gap(HOME[0], other, counts))
                    self.assertIs((other, counts) in found, told <= DEPTH)


class Walks(unittest.TestCase):
    def test_beside_all_walks_of_few_links(self):
        for (shape, other), known in walks(7).items():
            for often in itertools.product(range(8), repeat=6):
                if sum(often) <= 7:
                    self.assertIs(can_go(shape, other, often), often in known)
            for often in known:
                walk = walk_for(shape, other, often)
                self.assertTrue(is_walk(shape, other, often, walk))
                self.assertIs(is_walk_for(shape, other, often, walk), True)
                self.assertIs(is_walk_for(shape, other, often, list(walk)), False)

    def test_is_walk_for_beside_all_tuples_of_links(self):
        often = (2, 1, 0, 0, 0, 1)
        for shape, other in itertools.product(RING[:3], repeat=2):
            for walk in itertools.product((0, 1, 5), repeat=4):
                self.assertIs(is_walk_for(shape, other, often, walk), is_walk(shape, other, often, walk))

    def test_no_walk(self):
        start, last = RING[0], RING[2]
        for shape, other, often in ((start, last, FLAT), (start, start, (0, 2, 0, 0, 0, 0)), (start, start, (2, 0, 2, 0, 0, 0)),
                                    (start, last, (1, 0, 0, 0, 0, 0)), (start, last, (1, 1, 0, 2, 0, 0)),
                                    (start, last, (1, 1, 1, 1, 1, 1)), (start, last, (0, 1, 0, 0, 0, 0))):
            self.assertIs(can_go(shape, other, often), False)
            self.assertIs(is_walk_for(shape, other, often, ()), False)
            with self.assertRaises(CanNot):
                walk_for(shape, other, often)

    def test_nothing_gone(self):
        for shape in ALL_SHAPES:
            self.assertIs(can_go(shape, shape, FLAT), True)
            self.assertEqual(walk_for(shape, shape, FLAT), ())
            self.assertIs(is_walk_for(shape, shape, FLAT, ()), True)
            self.assertIs(is_walk_for(shape, shape, FLAT, []), False)

    def test_both_arcs_of_one_shape(self):
        for start, shape in enumerate(RING):
            self.assertIs(can_go(shape, shape, (1,) * 6), True)
            round_all = tuple((start + n) % 6 for n in range(6))
            self.assertIs(is_walk_for(shape, shape, (1,) * 6, round_all), True)
            self.assertIs(is_walk_for(shape, shape, (1,) * 6, round_all[::-1]), True)
            self.assertIs(is_walk_for(shape, shape, (1,) * 6, round_all[1:] + round_all[:1]), False)
            self.assertIs(can_go(shape, shape, (1, 1, 1, 1, 1, 0)), False)

    def test_up_to_2000(self):
        draw = Draw(102)
        cases = [(RING[0], RING[0], (2000, 0, 0, 0, 0, 0)), (RING[0], RING[2], (3, 331, 666, 334, 666, 0)),
                 (RING[5], RING[1], (501, 500, 2, 2, 494, 501)), (RING[3], RING[3], (333, 333, 333, 333, 333, 335))]
        for shape, other, often in cases:
            self.assertEqual(sum(often), 2000)
            self.assertEqual(walk_for(shape, other, often), walk_for(shape, other, often))
        for _ in range(12):
            shape = draw.chance.choice(RING)
            at, often = RING.index(shape), [0] * 6
            for _ in range(2000):
                step = draw.chance.choice((0, 1))
                often[at if step else (at - 1) % 6] += 1
                at = (at + (1 if step else -1)) % 6
            cases.append((shape, RING[at], tuple(often)))
        for shape, other, often in cases:
            self.assertIs(can_go(shape, other, often), True)
            self.assertTrue(is_walk(shape, other, often, walk_for(shape, other, often)))

    def test_too_many_stands_behind_cannot(self):
        for often in ((2002, 0, 0, 0, 0, 0), (2000, 0, 0, 0, 0, 2), (10 ** 6,) * 6, (333, 333, 333, 333, 333, 337)):
            self.assertIs(can_go(RING[0], RING[0], often), True)
            with self.assertRaises(TooMany):
                walk_for(RING[0], RING[0], often)
        for often in ((0, 2002, 0, 0, 0, 0), (2001, 0, 0, 0, 0, 0)):
            with self.assertRaises(CanNot):
                walk_for(RING[0], RING[0], often)
        with self.assertRaises(TooMany):
            walk_for(RING[0], RING[1], (2001, 0, 0, 0, 0, 0))
        self.assertEqual(walk_for(RING[0], RING[1], (1999, 0, 0, 0, 0, 0)), (0,) * 1999)
        self.assertIs(is_walk_for(RING[0], RING[0], (2002, 0, 0, 0, 0, 0), (0,) * 2002), True)

    def test_what_is_no_walk_for(self):
        start, last, often = RING[0], RING[2], (1, 1, 2, 0, 0, 0)
        self.assertIs(is_walk_for(start, last, often, (0, 1, 2, 2)), True)
        for thing in ([0, 1, 2, 2], (0, True, 2, 2), (False, 1, 2, 2), (0, 1, 2), (0, 1, 2, 2, 2), (0, 1, 2, 2, 2, 2), (2, 2, 1, 0),
                      (0, 2, 2, 1), (), None, True, "0122", (0, 1, 2, None), (0, 1, 2, "2"), ((0, 1, 2, 2),), (0, 1, 2, (2,)),
                      (0, 1, 2, -4), (6, 1, 2, 2), (0, 1, 2, 8), ((0,), (1,), (2,), (2,)), 122, (0, 0, 0, 1, 2, 2)):
            self.assertIs(is_walk_for(start, last, often, thing), False, thing)
        with self.assertRaises(Unfit):
            is_walk_for(start, last, (1, 1, 2, 0, 0, -1), None)


class Fronts(unittest.TestCase):
    def test_beside_faces_in_space(self):
        for shape in ALL_SHAPES:
            stand = shape, (4, 0, 1), (0, 9, 0), (-1, 1, -1)
            for (other, counts), (_, fronts) in come_to(shape, 6).items():
                self.assertEqual(fronts_by(stand, other, counts), tuple(a * b for a, b in zip(stand[3], fronts)))

    def test_beside_rows(self):
        draw = Draw(103)
        for stand in draw.stands(60):
            row = draw.tips(draw.chance.randint(0, 40))
            there = behind(stand, row)
            self.assertEqual(fronts_by(stand, there[0], counts_of(stand, row)), there[3])

    def test_counts_that_do_not_lead(self):
        for shape, counts in (((0, 1, 2), (1, 0, 0, 0, 0, 0)), ((2, 1, 0), FLAT), ((2, 1, 0), (0, 1, 0, 0, 0, 0))):
            with self.assertRaises(CanNot):
                fronts_by(HOME, shape, counts)


if __name__ == "__main__":
    unittest.main()
