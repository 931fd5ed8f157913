"""STANDS, ROWS, CHESTS and the like, drawn the same at each run."""

import itertools
import random

ALL_SHAPES = list(itertools.permutations(range(3)))
ALL_FRONTS = list(itertools.product((1, -1), repeat=3))
ALL_TIPS = [("tip", way) for way in range(4)]
ALL_TURNS = [("turn", corner, hand) for corner in range(4) for hand in (-1, 1)]
ALL_MOVES = ALL_TIPS + ALL_TURNS
HOME = ((0, 1, 2), (0, 0, 0), (0, 0, 0), (1, 1, 1))
# Any two of STANDS are told apart by one of these.
CHESTS = [(1, 1, 1), (2, 1, 1), (1, 2, 1), (1, 1, 2), (5, 2, 3), (7, 7, 4), (60, 59, 1)]
GREAT = 10 ** 12


class Draw:
    def __init__(self, seed):
        self.chance = random.Random(seed)

    def number(self, most):
        return self.chance.randint(-most, most)

    def stand(self, most=9):
        xs = tuple(self.number(most) for _ in range(3))
        ys = tuple(self.number(most) for _ in range(3))
        return self.chance.choice(ALL_SHAPES), xs, ys, self.chance.choice(ALL_FRONTS)

    def stands(self, many):
        """So many, every third with great numbers."""
        return [self.stand(GREAT if n % 3 == 0 else 9) for n in range(many)]

    def row(self, many, moves=ALL_MOVES):
        return tuple(self.chance.choice(moves) for _ in range(many))

    def tips(self, many):
        return self.row(many, ALL_TIPS)

    def counts(self, most=4):
        return tuple(self.number(most) for _ in range(6))
