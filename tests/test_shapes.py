"""[5]: CHESTS, SHAPES, the RING with its LINKS and arcs."""

import unittest

from movedchest.errors import CanNot, NoLink, Unfit
from movedchest.shapes import (
    arcs, is_chest, is_shape, link_between, link_ends, link_over, link_side, link_ways, other_shape, position,
    ring_steps, shape_at, shapes,
)
from tests.drawn import ALL_SHAPES

RING = [(0, 1, 2), (2, 1, 0), (2, 0, 1), (1, 0, 2), (1, 2, 0), (0, 2, 1)]


def tip_of_shape(shape, way):
    """By [3]: east, west exchange what lies along x and what stands; north, south along y."""
    i, j, k = shape
    return (k, j, i) if way in (0, 2) else (i, k, j)


class Kinds(unittest.TestCase):
    def test_is_chest(self):
        for thing in ((1, 1, 1), (60, 2, 3), (10 ** 20, 1, 1)):
            self.assertIs(is_chest(thing), True)
        for thing in ([1, 1, 1], (1, 1), (1, 1, 1, 1), (1, 1, 0), (1, -1, 1), (0, 1, 1), (True, 1, 1), (1, 1, None),
                      ("1", 1, 1), (1, 1, (1,)), None, True, 3, "abc", (), [], ((1, 1, 1),)):
            self.assertIs(is_chest(thing), False, thing)

    def test_is_shape(self):
        for shape in ALL_SHAPES:
            self.assertIs(is_shape(shape), True)
            self.assertIs(is_shape(list(shape)), False)
        for thing in ((0, 0, 1), (0, 1), (0, 1, 2, 3), (1, 2, 3), (False, 1, 2), (0, True, 2), ("0", 1, 2), (0, 1, 2.0),
                      (-3, -2, -1), None, True, "012", (), [], ((0, 1, 2),), (0, 1, [2])):
            self.assertIs(is_shape(thing), False, thing)


class Ring(unittest.TestCase):
    def test_shapes_positions(self):
        self.assertEqual(shapes(), RING)
        self.assertIsNot(shapes(), shapes())
        shapes().clear()
        self.assertEqual(shapes(), RING)
        for number, shape in enumerate(RING):
            self.assertEqual(position(shape), number)
            self.assertEqual(shape_at(number), shape)

    def test_links(self):
        for link in range(6):
            first, second = RING[link], RING[(link + 1) % 6]
            self.assertEqual(link_ends(link), (first, second))
            self.assertEqual(link_ways(link), (0, 2) if link % 2 == 0 else (1, 3))
            stays = [own for at, own in enumerate(first) if second[at] == own]
            self.assertEqual([link_side(link)], stays)
            for way in link_ways(link):
                self.assertEqual(tip_of_shape(first, way), second)
                self.assertEqual(tip_of_shape(second, way), first)
                self.assertEqual([link_over(first, way), link_over(second, way)], [link, link])
            self.assertEqual(other_shape(first, link), second)
            self.assertEqual(other_shape(second, link), first)
            self.assertEqual([link_between(first, second), link_between(second, first)], [link, link])

    def test_each_shape_is_at_two_links(self):
        for shape in ALL_SHAPES:
            own = [link for link in range(6) if shape in link_ends(link)]
            self.assertEqual(sorted(link % 2 for link in own), [0, 1])
            for way in range(4):
                link = link_over(shape, way)
                self.assertIn(link, own)
                self.assertEqual(link % 2, way % 2)
                beyond = other_shape(shape, link)
                self.assertEqual(beyond, tip_of_shape(shape, way))
                self.assertEqual(other_shape(beyond, link), shape)
            for link in range(6):
                if link not in own:
                    with self.assertRaises(CanNot):
                        other_shape(shape, link)

    def test_link_between_none(self):
        for shape in ALL_SHAPES:
            for other in ALL_SHAPES:
                joined = [link for link in range(6) if sorted(link_ends(link)) == sorted((shape, other))]
                if joined:
                    self.assertEqual([link_between(shape, other)], joined)
                else:
                    with self.assertRaises(CanNot):
                        link_between(shape, other)

    def test_no_link(self):
        for link in (6, -1, 7, -6, 10 ** 12):
            calls = [lambda: link_ends(link), lambda: link_side(link), lambda: link_ways(link),
                     lambda: other_shape((0, 1, 2), link)]
            for call in calls:
                with self.assertRaises(NoLink) as caught:
                    call()
                self.assertEqual(caught.exception.link, link)

    def test_no_link_stands_behind_unfit(self):
        with self.assertRaises(Unfit):
            other_shape((0, 1, 1), 6)
        for link in (None, True, "6", (6,), 1.0):
            with self.assertRaises(Unfit):
                other_shape((0, 1, 2), link)


class Arcs(unittest.TestCase):
    def walked(self, shape, other, forward):
        """The LINKS gone over from shape round to other, and where one is then."""
        gone = []
        while shape != other:
            at = RING.index(shape)
            gone.append(at if forward else (at - 1) % 6)
            shape = RING[(at + (1 if forward else -1)) % 6]
        return tuple(sorted(gone))

    def test_two_shapes(self):
        for shape in ALL_SHAPES:
            for other in ALL_SHAPES:
                if shape == other:
                    continue
                expected = self.walked(shape, other, True), self.walked(shape, other, False)
                self.assertEqual(arcs(shape, other), expected)
                self.assertEqual(sorted(expected[0] + expected[1]), [0, 1, 2, 3, 4, 5])
                self.assertEqual(ring_steps(shape, other), min(len(expected[0]), len(expected[1])))

    def test_one_shape(self):
        for shape in ALL_SHAPES:
            self.assertEqual(arcs(shape, shape), ((), (0, 1, 2, 3, 4, 5)))
            self.assertEqual(ring_steps(shape, shape), 0)

    def test_ring_steps_are_the_fewest_tips(self):
        for shape in ALL_SHAPES:
            steps, seen = {shape: 0}, [shape]
            for here in seen:
                for way in range(4):
                    there = tip_of_shape(here, way)
                    if there not in steps:
                        steps[there] = steps[here] + 1
                        seen.append(there)
            self.assertEqual({other: ring_steps(shape, other) for other in ALL_SHAPES}, steps)


if __name__ == "__main__":
    unittest.main()
