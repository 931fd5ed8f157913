"""MIDDLES of CHESTS with told sides, worked out from xs and ys; nothing here is taken from the package."""

from tests.tipping import RING

LINK_SIDES = (1, 2, 0, 1, 2, 0)


def middle_told(chest, stand):
    return tuple(sum(side * number for side, number in zip(chest, stand[line])) for line in (1, 2))


def found_by(chest, within):
    """For each pair (SHAPE, MIDDLE) of what a search has come to: by how many MOVES at the fewest."""
    found = {}
    for goal, many in within.items():
        own = goal[0], middle_told(chest, goal)
        found[own] = min(many, found.get(own, many))
    return found


def arcs_told(shape, other):
    start, end = RING.index(shape), RING.index(other)
    onward = [(start + n) % 6 for n in range((end - start) % 6)]
    return tuple(sorted(onward)), tuple(link for link in range(6) if link not in onward)
