"""[9]: COUNTS of ROWS of tips, and between STANDS."""

import itertools
import unittest

from movedchest.counts import (
    can_lead, counts_back, counts_between, counts_joined, counts_of, is_counts, middle_shift, odd_links, shifts_by,
    size_of, stand_by,
)
from movedchest.errors import CanNot, Unfit
from movedchest.rows import behind
from movedchest.stands import middle_of
from movedchest.undoing import undone
from tests.drawn import ALL_SHAPES, CHESTS, GREAT, HOME, Draw
from tests.tipping import RING, come_to, counted, faces_of

LINK_SIDES = [1, 2, 0, 1, 2, 0]
FLAT = (0,) * 6
DEPTH = 7


def arcs_by_walking(shape, other):
    """The LINKS gone over from shape to other, one way round and the other way round."""
    start, end = RING.index(shape), RING.index(other)
    onward, at = [], start
    while at != end:
        onward.append(at)
        at = (at + 1) % 6
    return set(onward), set(range(6)) - set(onward)


class Kinds(unittest.TestCase):
    def test_is_counts(self):
        for thing in (FLAT, (1, -1, 2, 3, 4, 5), (GREAT, -GREAT, 10 ** 40, 0, 0, 0)):
            self.assertIs(is_counts(thing), True)
        for thing in ([0] * 6, (0,) * 5, (0,) * 7, (0, 0, 0, 0, 0, True), (0, 0, 0, 0, 0, None), "000000", None, True,
                      0, (),
                      (FLAT,), ((0,),) * 6, (0, 0, 0, 0, 0, "0")):
            self.assertIs(is_counts(thing), False, thing)


class OfRows(unittest.TestCase):
    def test_beside_faces_in_space_and_between_the_ends(self):
        draw = Draw(91)
        for stand in draw.stands(60):
            row = draw.tips(draw.chance.randint(0, 25))
            counts = counts_of(stand, row)
            there = behind(stand, row)
            self.assertEqual(counts, counted(faces_of(stand[0]), [way for _, way in row]))
            self.assertEqual(counts_between(stand, there), counts)
            self.assertIs(can_lead(stand[0], there[0], counts), True)
            self.assertEqual(stand_by(stand, there[0], counts), there)
            for chest in CHESTS:
                ends = middle_of(chest, stand), middle_of(chest, there)
                self.assertEqual(middle_shift(chest, counts), tuple(b - a for a, b in zip(*ends)))
            shifts = tuple(tuple(b - a for a, b in zip(stand[own], there[own])) for own in (1, 2))
            self.assertEqual(shifts_by(counts), shifts)

    def test_one_behind_the_other_and_back(self):
        draw = Draw(92)
        for stand in draw.stands(40):
            row, other = draw.tips(9), draw.tips(8)
            there = behind(stand, row)
            both = counts_joined(counts_of(stand, row), counts_of(there, other))
            self.assertEqual(counts_of(stand, row + other), both)
            self.assertEqual(counts_of(there, undone(row)), counts_back(counts_of(stand, row)))

    def test_one_stand_exactly_if_one_shape_and_counts(self):
        for stand in (HOME, ((1, 0, 2), (3, 4, 5), (-1, 0, 1), (1, -1, -1))):
            stands, told = {}, {}
            for ways in itertools.product(range(4), repeat=6):
                row = tuple(("tip", way) for way in ways)
                there = behind(stand, row)
                own = there[0], counts_of(stand, row)
                self.assertEqual(stands.setdefault(own, there), there)
                self.assertEqual(told.setdefault(there, own), own)

    def test_a_turn_in_it(self):
        for turn in (("turn", 0, 1), ("turn", 3, -1)):
            for row in ((turn,), (turn, ("tip", 0)), (("tip", 0), turn), (("tip", 0), turn, ("tip", 1))):
                with self.assertRaises(CanNot):
                    counts_of(HOME, row)

    def test_long_rows(self):
        self.assertEqual(counts_of(HOME, (("tip", 0),) * 2000), (2000, 0, 0, 0, 0, 0))


class Between(unittest.TestCase):
    def test_drawn_stands(self):
        draw = Draw(93)
        odd = 0
        for _ in range(200):
            stand, goal = draw.stand(), draw.stand(draw.chance.choice((3, GREAT)))
            more = [[b - a for a, b in zip(stand[own], goal[own])] for own in (1, 2)]
            if sum(more[0]) % 2 or sum(more[1]) % 2:
                odd += 1
                with self.assertRaises(CanNot):
                    counts_between(stand, goal)
                continue
            counts = counts_between(stand, goal)
            # What both other sides than its own have more is what its LINK's COUNT, of this axis, gives them.
            for axis in (0, 1):
                for side in range(3):
                    given = [counts[link] for link in range(axis, 6, 2) if LINK_SIDES[link] != side]
                    self.assertEqual(sum(given), more[axis][side])
            self.assertEqual(counts_between(goal, stand), counts_back(counts))
        self.assertTrue(0 < odd < 200)

    def test_odd_sums_on_one_axis_alone(self):
        for more in ((1, 0, 0), (-1, 0, 0), (1, 1, 1), (0, 0, 10 ** 12 + 1)):
            for goal in (((0, 1, 2), more, (0, 0, 0), (1, 1, 1)), ((0, 1, 2), (0, 0, 0), more, (1, 1, 1))):
                with self.assertRaises(CanNot):
                    counts_between(HOME, goal)
                with self.assertRaises(CanNot):
                    counts_between(goal, HOME)
                with self.assertRaises(Unfit):
                    counts_between(goal, None)

    def test_shapes_and_fronts_do_not_matter(self):
        for stand in Draw(94).stands(20):
            goal = (2, 0, 1), tuple(x + 2 for x in stand[1]), stand[2], (-1, 1, -1)
            self.assertEqual(counts_between(stand, goal), (1, 0, 1, 0, 1, 0))
            self.assertEqual(counts_between(stand, stand), FLAT)


class Numbers(unittest.TestCase):
    def test_shifts_and_middles(self):
        self.assertEqual(shifts_by(FLAT), ((0, 0, 0), (0, 0, 0)))
        for link in range(6):
            counts = tuple(7 if own == link else 0 for own in range(6))
            more = tuple(0 if side == LINK_SIDES[link] else 7 for side in range(3))
            none = (0, 0, 0)
            self.assertEqual(shifts_by(counts), (more, none) if link % 2 == 0 else (none, more))
        for counts in [Draw(95).counts(GREAT) for _ in range(20)]:
            for chest in CHESTS:
                told = tuple(sum(a * b for a, b in zip(chest, own)) for own in shifts_by(counts))
                self.assertEqual(middle_shift(chest, counts), told)

    def test_joined_back_size_odd(self):
        draw = Draw(96)
        for most in (3, 9, GREAT):
            for _ in range(20):
                counts, second = draw.counts(most), draw.counts(most)
                self.assertEqual(counts_joined(counts, second), tuple(a + b for a, b in zip(counts, second)))
                self.assertEqual(counts_joined(counts, counts_back(counts)), FLAT)
                self.assertEqual(counts_back(counts), tuple(-own for own in counts))
                self.assertEqual(size_of(counts), sum(max(own, -own) for own in counts))
                self.assertEqual(odd_links(counts), tuple(n for n in range(6) if counts[n] % 2 != 0))
        self.assertEqual((size_of(FLAT), odd_links(FLAT), odd_links((1, -1, 3, -3, 5, 7))), (0, (), (0, 1, 2, 3, 4, 5)))


class Leading(unittest.TestCase):
    def test_can_lead_for_all_parities(self):
        for shape in ALL_SHAPES:
            for other in ALL_SHAPES:
                both = arcs_by_walking(shape, other)
                for parities in itertools.product((0, 1), repeat=6):
                    odd = {link for link in range(6) if parities[link]}
                    for counts in (parities, tuple(own - 4 for own in parities), tuple(-own for own in parities)):
                        self.assertIs(can_lead(shape, other, counts), odd in both)

    def test_all_few_tips_come_to(self):
        """COUNTS that lead are those of some ROW; FRONTS are as of faces turned in space."""
        for shape in ALL_SHAPES:
            found = come_to(shape, DEPTH)
            for (other, counts), (_, fronts) in found.items():
                stand = shape, (5, 0, -1), (2, 2, 2), (1, -1, 1)
                there = stand_by(stand, other, counts)
                self.assertEqual(there[0], other)
                self.assertEqual(there[3], tuple(a * b for a, b in zip(stand[3], fronts)))
                self.assertEqual(counts_between(stand, there), counts)
            for counts in itertools.product((-1, 0, 1), repeat=6):
                # Of so small ones the fewest tips are at most 7: the sizes added up and 4.
                if size_of(counts) <= 3:
                    for other in ALL_SHAPES:
                        self.assertIs(can_lead(shape, other, counts), (other, counts) in found)

    def test_stand_by_that_cannot(self):
        for shape in ALL_SHAPES:
            for other in ALL_SHAPES:
                for counts in itertools.product((0, 1), repeat=6):
                    stand = shape, (0, 0, 0), (0, 0, 0), (1, 1, 1)
                    if not can_lead(shape, other, counts):
                        with self.assertRaises(CanNot):
                            stand_by(stand, other, counts)
        with self.assertRaises(Unfit):
            stand_by(HOME, (0, 1, 1), (1, 0, 0, 0, 0, 0))
        with self.assertRaises(Unfit):
            stand_by(HOME, (0, 1, 2), (1, 0, 0, 0, 0))

    def test_great_counts(self):
        start = ((0, 1, 2), (GREAT, 0, -GREAT), (0, 0, 0), (1, 1, 1))
        self.assertEqual(
            stand_by(start, (0, 1, 2), (GREAT, 0, 0, 0, 0, 2)),
            ((0, 1, 2), (2 * GREAT, 0, 0), (0, 2, 2), (1, -1, -1)),
        )

    def test_fronts_of_great_counts_go_by_four(self):
        draw = Draw(97)
        for stand in draw.stands(60):
            row = draw.tips(12)
            there, counts = behind(stand, row), counts_of(stand, row)
            for link in range(6):
                more = tuple(own + (4 * 10 ** 11 if at == link else 0) for at, own in enumerate(counts))
                self.assertEqual(stand_by(stand, there[0], more)[3], there[3])


if __name__ == "__main__":
    unittest.main()
