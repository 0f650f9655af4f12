import unittest
from itertools import product

from doubtborne.walking import walked
from tests.answers import (
    MIXED, MIXED_SETTINGS, AnswerCase, free_by_sign, sign_beside)

AHEAD, RIGHT, BACK, LEFT = range(4)
NORTH, EAST, SOUTH, WEST = range(4)
# The middle one has the number 12.
FIVE = (".....",) * 5


def every_trail():
    """All trails of 0 to 3 turns."""
    return [trail for size in range(4) for trail in product(range(4), repeat=size)]


def walked_by_definition(plan, setting, cell, direction, trail):
    """A trail, turn by turn, as the document says."""
    way = [cell]
    for turn in trail:
        beside, kind = sign_beside(plan, setting, way[-1], (direction + turn) % 4)
        if kind == "wall":
            return ("end", tuple(way), 1)
        way.append(beside)
        if kind in ("glass", "hole"):
            return ("touch", tuple(way))
    return ("end", tuple(way), 0)


class TestWalked(AnswerCase):

    def goes(self, expected, plan, cell, direction, trail, setting=()):
        self.answers(expected, walked, plan, setting, cell, direction, trail)

    def test_example(self):
        self.goes(("touch", (0, 1, 2)), ("..!",), 0, EAST, (0, 0))

    def test_the_empty_trail(self):
        for direction in range(4):
            self.goes(("end", (12,), 0), FIVE, 12, direction, ())
            self.goes(("end", (0,), 0), (".",), 0, direction, ())

    def test_the_plain_move(self):
        for direction, cell in enumerate((7, 13, 17, 11)):
            self.goes(("end", (12, cell), 0), FIVE, 12, direction, (AHEAD,))

    def test_each_turn_in_each_direction(self):
        cells = (7, 13, 17, 11)
        for direction in range(4):
            for turn in range(4):
                self.goes(("end", (12, cells[(direction + turn) % 4]), 0), FIVE, 12, direction, (turn,))

    def test_turns_are_those_of_the_direction_and_not_of_the_turns_ahead(self):
        self.goes(("end", (12, 13, 14), 0), FIVE, 12, NORTH, (RIGHT, RIGHT))
        self.goes(("end", (12, 13, 8), 0), FIVE, 12, NORTH, (RIGHT, AHEAD))
        self.goes(("end", (12, 11, 12, 7), 0), FIVE, 12, SOUTH, (RIGHT, LEFT, BACK))
        self.goes(("end", (12, 17, 12, 13), 0), FIVE, 12, WEST, (LEFT, RIGHT, BACK))

    def test_a_way_with_a_cell_twice(self):
        self.goes(("end", (12, 13, 12, 13), 0), FIVE, 12, EAST, (AHEAD, BACK, AHEAD))

    def test_stopped_at_each_of_three_turns(self):
        trail = (AHEAD, AHEAD, AHEAD)
        self.goes(("end", (0,), 1), (".#...",), 0, EAST, trail)
        self.goes(("end", (0, 1), 1), ("..#..",), 0, EAST, trail)
        self.goes(("end", (0, 1, 2), 1), ("...#.",), 0, EAST, trail)
        self.goes(("end", (0, 1, 2, 3), 0), ("....#",), 0, EAST, trail)

    def test_no_further_turn_is_gone_behind_a_stop(self):
        self.goes(("end", (6,), 1), ("##...", "#....", "#...."), 6, NORTH, (AHEAD, RIGHT, RIGHT))
        self.goes(("end", (6, 7), 1), ("###..", "#....", "#...."), 6, NORTH, (RIGHT, AHEAD, RIGHT))

    def test_touching_glass_and_holes_at_each_of_three_turns(self):
        for sign in "*!":
            for steps in range(1, 4):
                plan = ("." * steps + sign + "....",)
                self.goes(("touch", tuple(range(steps + 1))), plan, 0, EAST, (AHEAD, AHEAD, AHEAD))
            self.goes(("end", (0, 1, 2, 3), 0), ("...." + sign,), 0, EAST, (AHEAD, AHEAD, AHEAD))

    def test_no_further_turn_is_gone_behind_a_touch(self):
        for sign in "*!":
            self.goes(("touch", (0, 1)), ("." + sign + "..",), 0, EAST, (AHEAD, BACK))
            self.goes(("touch", (0, 1)), ("." + sign + "#.",), 0, EAST, (AHEAD, AHEAD, AHEAD))

    def test_a_stop_ahead_of_glass(self):
        self.goes(("end", (0,), 1), (".#*",), 0, EAST, (AHEAD, AHEAD))

    def test_the_end_of_the_plan_on_each_side(self):
        for direction in range(4):
            self.goes(("end", (0,), 1), (".",), 0, direction, (AHEAD,))
        ways = {NORTH: (12, 7, 2), EAST: (12, 13, 14), SOUTH: (12, 17, 22), WEST: (12, 11, 10)}
        for direction, way in ways.items():
            self.goes(("end", way, 0), FIVE, 12, direction, (AHEAD, AHEAD))
            self.goes(("end", way, 1), FIVE, 12, direction, (AHEAD, AHEAD, AHEAD))

    def test_lines_do_not_run_on(self):
        self.goes(("end", (4,), 1), FIVE, 4, EAST, (AHEAD,))
        self.goes(("end", (5,), 1), FIVE, 5, WEST, (AHEAD,))

    def test_gates(self):
        self.goes(("end", (0,), 1), (".1.",), 0, EAST, (AHEAD, AHEAD), (0,))
        self.goes(("end", (0, 1, 2), 0), (".1.",), 0, EAST, (AHEAD, AHEAD), (1,))

    def test_lids(self):
        self.goes(("end", (0, 1, 2), 0), (".A.",), 0, EAST, (AHEAD, AHEAD), (0,))
        self.goes(("touch", (0, 1)), (".A.",), 0, EAST, (AHEAD, AHEAD), (1,))

    def test_all_floor_is_gone(self):
        for sign in ".,+ah":
            self.goes(("end", (0, 1, 2), 0), ("." + sign + ".",), 0, EAST, (AHEAD, AHEAD))

    def test_all_trails_by_the_definition(self):
        for setting in (MIXED_SETTINGS[0], MIXED_SETTINGS[3]):
            for cell in free_by_sign(MIXED, setting):
                for direction, trail in product(range(4), every_trail()):
                    expected = walked_by_definition(MIXED, setting, cell, direction, trail)
                    self.goes(expected, MIXED, cell, direction, trail, setting)


if __name__ == "__main__":
    unittest.main()
