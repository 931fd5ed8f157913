"""[1], [2]: what holds over the whole program; what one function returns is passed in to others."""

import subprocess
import sys
import unittest
from pathlib import Path

from movedchest.alike import alike_for, are_alike, parting_chest
from movedchest.barred import bars, can_tip_to, stakes, tips_told, why_no_fewer
from movedchest.boards import covered, fits, lain, lying_of, moves_on, plan_on, reached_on
from movedchest.counts import can_lead, counts_between, counts_of, middle_shift, odd_links, size_of, stand_by
from movedchest.covered import middles_in, nearest_there, shapes_there, turns_in
from movedchest.cubes import bar_best, bar_fewest, cube_best, cube_fewest
from movedchest.desk import Desk
from movedchest.fewest import fewest_tips, is_plan, plan
from movedchest.judge import first_fallen, is_reason_for, is_so, paper_against, reason_for
from movedchest.links import free_stretches, fronts_by, gap
from movedchest.prices import cheap_and_few, cheap_plan, cheapest, price_of
from movedchest.rows import behind, stands_along
from movedchest.shapes import arcs, shapes
from movedchest.shortest import fewest_like, kind_of_row, shortest_like
from movedchest.slants import can_turn_to, fewest_turns, slants_between, stand_by_slants, turn_plan
from movedchest.stands import home, looks, middle_of, moves
from movedchest.texts import board_picture, lyings_in, move_text, read_move, read_picture, read_sheet, sheet_text
from movedchest.told import best_goal, can_tip_there, fewest_to, tip_row
from movedchest.toldturns import best_turn_goal, can_turn_there, fewest_turns_to, turn_row
from movedchest.undoing import put_behind, undone
from tests.drawn import ALL_TIPS, ALL_TURNS, CHESTS, GREAT, HOME, Draw

ROOT = Path(__file__).parent.parent
# What Python brings of itself, as far as the package may use it.
LIBRARY = {"math", "itertools", "heapq", "_heapq"}


def listed(value):
    """value with lists in the place of all tuples."""
    return [listed(own) for own in value] if isinstance(value, (list, tuple)) else value


class Package(unittest.TestCase):
    def test_no_clock_no_randomness_no_files(self):
        """Importing all of it brings in nothing but the package and some of Python's arithmetic."""
        names = sorted(path.stem for path in (ROOT / "movedchest").glob("*.py") if path.stem != "__init__")
        code = "import sys; ahead = set(sys.modules)\n"
        code += "".join(f"import movedchest.{name}\n" for name in names)
        code += "print('\\n'.join(sorted(set(sys.modules) - ahead)))"
        told = subprocess.run([sys.executable, "-c", code], cwd=ROOT, capture_output=True, text=True, check=True).stdout
        own = {name for name in told.split() if name.split(".")[0] == "movedchest"}
        self.assertEqual(own, {"movedchest"} | {"movedchest." + name for name in names})
        self.assertEqual(set(told.split()) - own - LIBRARY, set())


class Overview(unittest.TestCase):
    def test_tips_told_by_a_shape_and_six_counts(self):
        """(a)"""
        draw = Draw(1501)
        seen = {True: 0, False: 0}
        for number, stand in enumerate(draw.stands(120)):
            shape, counts = draw.chance.choice(shapes()), draw.counts()
            if number % 2:
                row = draw.tips(draw.chance.randint(0, 9))
                shape, counts = behind(stand, row)[0], counts_of(stand, row)
            leads = odd_links(counts) in arcs(stand[0], shape)
            seen[leads] += 1
            self.assertIs(can_lead(stand[0], shape, counts), leads)
            if leads:
                goal = stand_by(stand, shape, counts)
                self.assertEqual((goal[0], goal[3]), (shape, fronts_by(stand, shape, counts)))
                self.assertEqual(counts_between(stand, goal), counts)
                told = size_of(counts) + 2 * (counts.count(0) - gap(stand[0], shape, counts))
                self.assertEqual(fewest_tips(stand, goal), told)
                self.assertEqual(behind(stand, plan(stand, goal)), goal)
                self.assertEqual({tips_told(own) for own in stakes(stand, goal)}, {told})
                self.assertEqual(len(free_stretches(stand[0], shape, counts)) > 0, gap(stand[0], shape, counts) > 0)
        self.assertGreater(min(seen.values()), 30)

    def test_turns_told_by_slants(self):
        """(b)"""
        draw = Draw(1502)
        for stand in draw.stands(80):
            s, d, t, e = (draw.number(draw.chance.choice((3, GREAT))) for _ in range(4))
            slants = s, d + (s + d) % 2, t, e + (t + e) % 2
            goal = stand_by_slants(stand, slants)
            self.assertEqual(slants_between(stand, goal), slants)
            self.assertEqual(fewest_turns(stand, goal), max(map(abs, slants[:2])) + max(map(abs, slants[2:])))
            self.assertIs(can_turn_to(stand, goal), True)

    def test_rows_that_put_every_chest_alike(self):
        """(c): one STAND, whatever MOVES; COUNTS and SHAPE of tips, SLANTS and SHAPE of turns."""
        draw = Draw(1503)
        for _ in range(60):
            for kind in (ALL_TIPS, ALL_TURNS, ALL_TIPS + ALL_TURNS):
                row = draw.row(4, kind)
                like = row + undone(row) + row if kind_of_row(row) == "both" else shortest_like(row)
                for own in (like, draw.row(4, kind)):
                    there, here = behind(home(), row), behind(home(), own)
                    self.assertEqual(are_alike(row, own), there == here)
                    if kind is ALL_TIPS:
                        told = (there[0], counts_of(HOME, row)) == (here[0], counts_of(HOME, own))
                        self.assertEqual(told, there == here)
                    if kind is ALL_TURNS:
                        told = (there[0], slants_between(HOME, there)) == (here[0], slants_between(HOME, here))
                        self.assertEqual(told, there == here)
                    if there != here:
                        self.assertIs(alike_for(parting_chest(row, own), row, own), False)

    def test_told_middles(self):
        """(d): the fewest MOVES to a MIDDLE are those to the nearest of the STANDS with it."""
        draw = Draw(1504)
        for stand in draw.stands(25):
            chest = draw.chance.choice(CHESTS)
            for kind in (ALL_TIPS, ALL_TURNS):
                goal = behind(stand, draw.row(draw.chance.randint(0, 8), kind))
                args = chest, stand, goal[0], middle_of(chest, goal)
                self.assertIs(can_tip_there(*args), True)
                self.assertIn(goal[0], shapes_there(chest, stand, args[3]))
                self.assertEqual(nearest_there(*args), args[3])
                best = best_goal(*args)
                self.assertEqual(fewest_to(*args), fewest_tips(stand, best))
                self.assertEqual(behind(stand, tip_row(*args))[0], goal[0])
                self.assertEqual(fewest_to(chest, best, stand[0], middle_of(chest, stand)), fewest_to(*args))
                if kind is ALL_TURNS:
                    self.assertIs(can_turn_there(*args), True)
                    best = best_turn_goal(*args)
                    self.assertEqual(fewest_turns_to(*args), fewest_turns(stand, best))
                    self.assertEqual(middle_of(chest, behind(stand, turn_row(*args))), args[3])

    def test_a_turn_is_three_tips(self):
        for move in ALL_TURNS:
            there = behind(HOME, (move,))
            self.assertEqual(fewest_tips(HOME, there), 3)
            self.assertIs(are_alike((move,), plan(HOME, there)), True)
            for chest in ((1, 1, 1), (3, 2, 5)):
                self.assertIn(middle_of(chest, there), middles_in(chest, HOME, there[0], -9, 9))
                self.assertIn(middle_of(chest, there), turns_in(chest, HOME, there[0], -9, 9))


class PassedOn(unittest.TestCase):
    """What is returned is taken by other functions, as it is and with lists in the place of its tuples."""

    def both(self, function, *args):
        told = function(*args)
        self.assertEqual(function(*[listed(own) for own in args]), told)
        return told

    def test_plans(self):
        draw = Draw(1511)
        for stand in draw.stands(25):
            goal = self.both(behind, stand, draw.tips(6))
            row = self.both(plan, stand, goal)
            self.assertEqual(self.both(behind, stand, row), goal)
            self.assertEqual(self.both(behind, goal, self.both(undone, row)), stand)
            self.assertEqual(self.both(counts_of, stand, row), self.both(counts_between, stand, goal))
            stake = self.both(why_no_fewer, stand, goal)
            self.assertEqual(self.both(tips_told, stake), len(row))
            self.assertEqual(self.both(put_behind, stand, self.both(behind, HOME, row)), goal)
            self.assertEqual(self.both(fewest_like, row), self.both(fewest_tips, HOME, self.both(behind, HOME, row)))
            prices = tuple(draw.chance.randint(0, 5) for _ in range(6))
            cheap = self.both(cheap_plan, stand, goal, prices)
            self.assertEqual((self.both(price_of, stand, cheap, prices), len(cheap)), self.both(cheap_and_few, stand, goal, prices))
            self.assertLessEqual(self.both(cheapest, stand, goal, prices), self.both(price_of, stand, row, prices))
            self.assertEqual(self.both(cube_fewest, stand, goal), self.both(fewest_tips, stand, self.both(cube_best, stand, goal)))
            for side in range(3):
                self.assertEqual(self.both(bar_fewest, stand, goal, side),
                                 self.both(fewest_tips, stand, self.both(bar_best, stand, goal, side)))

    def test_great_values_that_are_returned(self):
        """Beyond the bounds of what is passed in."""
        far = stand_by(HOME, HOME[0], (2 * GREAT,) * 6)
        self.assertEqual(max(far[1]), 4 * GREAT)
        beyond = put_behind(far, far)
        self.assertEqual(counts_between(HOME, beyond), (4 * GREAT,) * 6)
        self.assertEqual(fewest_tips(HOME, beyond), 24 * GREAT)
        middle = middle_of((60, 60, 60), beyond)
        self.assertEqual(middle, middle_shift((60, 60, 60), counts_between(HOME, beyond)))
        self.assertLessEqual(fewest_to((60, 60, 60), HOME, HOME[0], middle), 24 * GREAT)
        self.assertIs(is_so(("fewest", HOME, beyond, fewest_tips(HOME, beyond))), True)

    def test_boards_and_texts(self):
        draw = Draw(1512)
        board, chest, here = (6, 5, ((2, 2), (4, 0))), (1, 2, 3), (HOME[0], (0, 0))
        for how in ("tips", "turns", "both"):
            for there in self.both(reached_on, board, chest, here, how):
                row = self.both(plan_on, board, chest, here, there, how)
                lying = here
                for move in row:
                    self.assertIn(move, self.both(moves_on, board, chest, lying, how))
                    lying = self.both(lain, chest, lying, move)
                    self.assertIs(self.both(fits, board, chest, lying), True)
                self.assertEqual(lying, there)
                self.assertEqual(self.both(lying_of, chest, (0, 0), self.both(behind, HOME, row)), there)
                told = read_picture(self.both(board_picture, board, chest, there))
                self.assertEqual(told, (board, self.both(covered, chest, there)))
                self.assertIn(there, self.both(lyings_in, told[0], chest, told[1]))
        for stand in draw.stands(20):
            row = draw.row(7)
            if max(map(abs, stand[1] + stand[2])) < GREAT:
                sheet = read_sheet(self.both(sheet_text, (chest, stand, row)))
                self.assertEqual(self.both(behind, sheet[1], sheet[2]), stands_along(stand, row)[-1])
            for move, there in self.both(moves, stand):
                self.assertEqual(self.both(behind, stand, [read_move(self.both(move_text, move))]), there)

    def test_demands(self):
        draw = Draw(1513)
        for stand, goal in zip(draw.stands(40), draw.stands(40)):
            demand = "come", stand, goal
            self.assertEqual(self.both(is_so, demand), can_tip_to(stand, goal))
            self.assertEqual(self.both(paper_against, demand), (bars(stand, goal) or [None])[0])
            there = behind(stand, draw.tips(5))
            row = self.both(reason_for, ("come", stand, there))
            self.assertIs(is_plan(stand, there, row), True)
            self.assertIs(is_reason_for(("fewest", stand, there, len(row)), row), True)
            turned = behind(stand, draw.row(5, ALL_TURNS))
            row = self.both(turn_plan, stand, turned)
            self.assertIs(is_reason_for(("turns", stand, turned, len(row)), row), True)
            self.assertEqual(self.both(first_fallen, (("come", stand, there), ("turns", stand, turned, len(row)), demand)),
                             None if can_tip_to(stand, goal) else 2)

    def test_the_desk(self):
        draw = Draw(1514)
        for _ in range(20):
            row = draw.row(8)
            desk = Desk([3, 2, 5])
            desk.say("\n".join(map(move_text, row)))
            self.assertEqual((desk.row(), desk.stand()), (row, self.both(behind, HOME, desk.row())))
            self.assertEqual(desk.say("middle")[0], "{} {}".format(*self.both(middle_of, desk.chest(), desk.stand())))
            self.assertEqual(desk.say("tips")[0], str(fewest_tips(HOME, desk.stand())))
            self.assertIn(looks(desk.stand(), 0), ("east", "west", "north", "south", "up", "down"))


if __name__ == "__main__":
    unittest.main()
