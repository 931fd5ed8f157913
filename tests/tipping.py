"""All that tips come to in few steps, by turning first faces about axes; nothing here is taken from the package."""

import itertools

from tests.body import EAST, NORTH, UP, WAY_VECTORS, cross, quarter
from tests.drawn import ALL_SHAPES

RING = [(0, 1, 2), (2, 1, 0), (2, 0, 1), (1, 0, 2), (1, 2, 0), (0, 2, 1)]
# As first faces look where all FRONTS are 1.
AXES = (EAST, NORTH, UP)


def shape_of(faces):
    """The SHAPE of which the first faces look so."""
    along = [[axis for axis in range(3) if face[axis] != 0][0] for face in faces]
    return tuple(along.index(axis) for axis in range(3))


def faces_of(shape, fronts=(1, 1, 1)):
    return tuple(tuple(fronts[side] * part for part in AXES[shape.index(side)]) for side in range(3))


def fronts_of(faces):
    return tuple(sum(face) for face in faces)


def tipped(faces, way):
    """How the first faces look behind a tip."""
    axis = cross(UP, WAY_VECTORS[way])
    return tuple(quarter(face, axis) for face in faces)


def link_joining(shape, other):
    """The LINK between two neighbours on the RING."""
    return [link for link in range(6) if {RING[link], RING[(link + 1) % 6]} == {shape, other}][0]


def links_of(faces, ways):
    """The list of the LINKS over which tips go these WAYS."""
    gone = []
    for way in ways:
        there = tipped(faces, way)
        gone.append(link_joining(shape_of(faces), shape_of(there)))
        faces = there
    return gone


def counted(faces, ways):
    """The COUNTS of tips these WAYS."""
    counts = [0] * 6
    for link, way in zip(links_of(faces, ways), ways):
        counts[link] += 1 if way in (0, 1) else -1
    return tuple(counts)


def come_to(shape, most):
    """For each pair (SHAPE, COUNTS) that at most so many tips come to from shape: (fewest tips, FRONTS)."""
    found = {(shape, (0,) * 6): (0, (1, 1, 1))}
    here = [(faces_of(shape), (0,) * 6)]
    for tips in range(1, most + 1):
        later = []
        for faces, counts in here:
            for way in range(4):
                there = tipped(faces, way)
                link = link_joining(shape_of(faces), shape_of(there))
                more = counts[:link] + (counts[link] + (1 if way in (0, 1) else -1),) + counts[link + 1:]
                if (shape_of(there), more) not in found:
                    found[shape_of(there), more] = tips, fronts_of(there)
                    later.append((there, more))
        here = later
    return found


def stretches_told(shape, other, counts):
    """All free stretches as sets, those that are part of a longer one too, and (): of all runs of LINKS."""
    found = {()}
    for first, many in itertools.product(range(6), range(1, 7)):
        run = [(first + n) % 6 for n in range(many)]
        inside = [RING[link] for link in run[1:]]
        if any(counts[link] for link in run) or shape in inside or other in inside:
            continue
        if many < 6 or shape == other == RING[first]:
            found.add(tuple(sorted(run)))
    return found


def walks(most):
    """For each pair of SHAPES the set of how often each LINK is gone over by walks of at most so many LINKS."""
    found = {(shape, other): set() for shape in ALL_SHAPES for other in ALL_SHAPES}
    for start in range(6):
        here = {(start, (0,) * 6)}
        for _ in range(most + 1):
            for at, often in here:
                found[RING[start], RING[at]].add(often)
            here = {
                (beyond % 6, often[:link] + (often[link] + 1,) + often[link + 1:])
                for at, often in here
                for beyond, link in ((at + 1, at), (at - 1, (at - 1) % 6))
            }
    return found
