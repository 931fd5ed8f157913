"""A chest as a body in space, told by its corners and the ways its first faces look.

Worked out by turning points about axes; nothing here is taken from the package.
All lengths are doubled.
"""

EAST, NORTH, WEST, SOUTH, UP, DOWN = (1, 0, 0), (0, 1, 0), (-1, 0, 0), (0, -1, 0), (0, 0, 1), (0, 0, -1)
WAY_VECTORS = [EAST, NORTH, WEST, SOUTH]
CORNER_SIGNS = [(-1, -1), (1, -1), (1, 1), (-1, 1)]
LOOK_WORDS = {EAST: "east", NORTH: "north", WEST: "west", SOUTH: "south", UP: "up", DOWN: "down"}


def cross(a, b):
    return (a[1] * b[2] - a[2] * b[1], a[2] * b[0] - a[0] * b[2], a[0] * b[1] - a[1] * b[0])


def dot(a, b):
    return sum(x * y for x, y in zip(a, b))


def plus(a, b):
    return tuple(x + y for x, y in zip(a, b))


def minus(a, b):
    return tuple(x - y for x, y in zip(a, b))


def times(number, a):
    return tuple(number * x for x in a)


def quarter(vector, axis):
    """The vector turned by a quarter about an axis of length 1, by the right hand."""
    return plus(cross(axis, vector), times(dot(axis, vector), axis))


class Body:
    """middle: that of the whole body; faces: for each side whither its first face looks."""

    def __init__(self, sides, middle, faces):
        self.sides, self.middle, self.faces = tuple(sides), tuple(middle), tuple(faces)

    @classmethod
    def at_home(cls, sides):
        return cls(sides, (0, 0, sides[2]), (EAST, NORTH, UP))

    @classmethod
    def on(cls, sides, stand):
        """The body that the document tells of a STAND."""
        shape, xs, ys, fronts = stand
        axes = (EAST, NORTH, UP)
        faces = [times(fronts[side], axes[shape.index(side)]) for side in range(3)]
        return cls(sides, (dot(xs, sides), dot(ys, sides), sides[shape[2]]), faces)

    def told(self):
        return self.sides, self.middle, self.faces

    def corners(self):
        found = []
        for signs in [(a, b, c) for a in (1, -1) for b in (1, -1) for c in (1, -1)]:
            point = self.middle
            for sign, side, face in zip(signs, self.sides, self.faces):
                point = plus(point, times(sign * side, face))
            found.append(point)
        return tuple(sorted(found))

    def lower_face(self):
        low = [point[:2] for point in self.corners() if point[2] == 0]
        return min(low), max(low)

    def height(self):
        return max(point[2] for point in self.corners()) // 2

    def looks(self, side):
        return LOOK_WORDS[self.faces[side]]

    def below(self):
        for side, face in enumerate(self.faces):
            if face in (UP, DOWN):
                return side, 1 if face == DOWN else -1

    def shape(self):
        along = [max(range(3), key=lambda axis: abs(face[axis])) for face in self.faces]
        return tuple(along.index(axis) for axis in range(3))

    def fronts(self):
        return tuple(sum(face) for face in self.faces)

    def turned_about(self, point, axis):
        middle = plus(point, quarter(minus(self.middle, point), axis))
        return Body(self.sides, middle, [quarter(face, axis) for face in self.faces])

    def corner_point(self, corner):
        (west, south), (east, north) = self.lower_face()
        over_x, over_y = CORNER_SIGNS[corner]
        return (east if over_x == 1 else west, north if over_y == 1 else south, 0)

    def moved(self, move):
        if move[0] == "tip":
            ahead = WAY_VECTORS[move[1]]
            edge = max(self.corners(), key=lambda point: (dot(ahead, point), -point[2]))
            # What looks up comes to look ahead: a quarter about UP x ahead.
            return self.turned_about(edge, cross(UP, ahead))
        return self.turned_about(self.corner_point(move[1]), times(move[2], UP))

    def edge_of(self, way):
        """The two ends of the lower edge over which it is tipped this way."""
        ahead = WAY_VECTORS[way]
        low = [point for point in self.corners() if point[2] == 0]
        most = max(dot(ahead, point) for point in low)
        return [point for point in low if dot(ahead, point) == most]

    def mirrored(self):
        """East for west."""
        def over(vector):
            return (-vector[0], vector[1], vector[2])
        return Body(self.sides, over(self.middle), [over(face) for face in self.faces])

    def left_about_beginning(self):
        return self.turned_about((0, 0, 0), UP)
