import unittest
from itertools import product

from doubtborne.sensors import ahead, sensor_top, sensor_values
from tests.answers import (
    MIXED, MIXED_SETTINGS, AnswerCase, free_by_sign, sign_beside)

ROW = ("......",)
BUMP = ("bump",)
MARK = ("mark", ())
NEAR = ("near", 1, 3)
SORTS = (("range", 1, 3, 1), MARK, BUMP, NEAR)
LARGE = ("." * 8,) * 8


def ahead_by_definition(plan, setting, cell, direction):
    """The number of free cells and holes in a row, one by one."""
    steps = 0
    while sign_beside(plan, setting, cell, direction, steps + 1)[1] in ("free", "hole"):
        steps += 1
    return steps


def distance(width, first, second):
    """The sum of the differences of lines and columns."""
    return abs(first // width - second // width) + abs(first % width - second % width)


class TestSensorTop(AnswerCase):

    def test_each_sort(self):
        self.answers(8, sensor_top, ("mark", ()))
        self.answers(8, sensor_top, ("mark", ((1, 2),)))
        self.answers(1, sensor_top, BUMP)
        self.answers(1, sensor_top, ("near", 0, 16))

    def test_range_is_far(self):
        for far in range(1, 5):
            for direction, error in product(range(4), range(5)):
                self.answers(far, sensor_top, ("range", direction, far, error))


class TestAhead(AnswerCase):

    def test_the_end_of_the_plan(self):
        for cell in range(6):
            self.answers(5 - cell, ahead, ROW, (), cell, 1)
            self.answers(cell, ahead, ROW, (), cell, 3)

    def test_none_at_all(self):
        for direction in range(4):
            self.answers(0, ahead, (".",), (), 0, direction)
        self.answers(0, ahead, (".#",), (), 0, 1)
        self.answers(0, ahead, (".*",), (), 0, 1)

    def test_a_wall_and_glass_stop(self):
        self.answers(2, ahead, ("...#..",), (), 0, 1)
        self.answers(2, ahead, ("...*..",), (), 0, 1)
        self.answers(1, ahead, ("..#*..",), (), 0, 1)

    def test_a_hole_is_counted_and_does_not_stop(self):
        self.answers(5, ahead, ("..!...",), (), 0, 1)
        self.answers(3, ahead, ("!.!.",), (), 3, 3)
        self.answers(1, ahead, (".!#.",), (), 0, 1)

    def test_a_gate_stops_only_if_its_door_is_shut(self):
        self.answers(1, ahead, ("..1..",), (0,), 0, 1)
        self.answers(4, ahead, ("..1..",), (1,), 0, 1)

    def test_a_lid_never_stops(self):
        self.answers(4, ahead, ("..A..",), (0,), 0, 1)
        self.answers(4, ahead, ("..A..",), (1,), 0, 1)

    def test_all_floor_is_counted(self):
        self.answers(6, ahead, (".,+abh.",), (), 0, 1)

    def test_the_four_directions(self):
        plan = (".....", "..#..", ".....", ".....", "*....")
        self.answers(3, ahead, plan, (), 18, 0)
        self.answers(1, ahead, plan, (), 18, 1)
        self.answers(1, ahead, plan, (), 18, 2)
        self.answers(3, ahead, plan, (), 18, 3)
        self.answers(1, ahead, plan, (), 17, 0)
        self.answers(3, ahead, plan, (), 0, 2)

    def test_seven_at_most(self):
        self.answers(7, ahead, LARGE, (), 56, 0)
        self.answers(7, ahead, LARGE, (), 0, 1)

    def test_all_cells_by_the_definition(self):
        for setting in MIXED_SETTINGS:
            for cell, direction in product(free_by_sign(MIXED, setting), range(4)):
                expected = ahead_by_definition(MIXED, setting, cell, direction)
                self.answers(expected, ahead, MIXED, setting, cell, direction)


class TestRange(AnswerCase):

    def shows(self, expected, far, error, cell, plan=ROW):
        self.answers(expected, sensor_values, plan, (), ("range", 1, far, error), None, cell, (), 0)

    def test_example(self):
        self.shows((0, 1, 2), 4, 1, 0, ("..#",))

    def test_without_error(self):
        self.shows((0,), 4, 0, 5)
        self.shows((1,), 4, 0, 4)
        self.shows((4,), 4, 0, 1)
        self.shows((4,), 4, 0, 0)
        self.shows((1,), 1, 0, 4)
        self.shows((1,), 1, 0, 0)
        self.shows((0,), 1, 0, 5)

    def test_nothing_below_0_and_nothing_above_far(self):
        self.shows((0, 1), 4, 1, 5)
        self.shows((3, 4), 4, 1, 1)
        self.shows((0, 1, 2, 3, 4), 4, 4, 5)
        self.shows((0, 1, 2, 3, 4), 4, 4, 0)
        self.shows((0, 1), 1, 1, 5)
        self.shows((0, 1), 1, 4, 0)

    def test_error_is_around_far_if_more_stands_ahead(self):
        self.shows((2, 3), 3, 1, 0)
        self.shows((1, 2), 2, 1, 0)

    def test_error_on_both_sides(self):
        self.shows((1, 2, 3), 4, 1, 3)
        self.shows((0, 1, 2, 3, 4), 4, 2, 3)

    def test_each_direction(self):
        plan = ("...", "...", "...", "...")
        for direction, seen in enumerate((2, 1, 1, 1)):
            self.answers((seen,), sensor_values, plan, (), ("range", direction, 4, 0), None, 7, (), 0)
        for direction, seen in enumerate((1, 2, 2, 0)):
            self.answers((seen,), sensor_values, plan, (), ("range", direction, 4, 0), None, 3, (), 0)

    def test_doors_count(self):
        sensor = ("range", 1, 4, 0)
        self.answers((1,), sensor_values, ("..1..",), (0,), sensor, None, 0, (), 0)
        self.answers((4,), sensor_values, ("..1..",), (1,), sensor, None, 0, (), 0)

    def test_movers_and_bumps_do_not_count(self):
        self.answers((4,), sensor_values, ROW, (), ("range", 1, 4, 0), None, 0, (1, 0), 1)

    def test_all_numbers_by_the_definition(self):
        for far, error, cell in product(range(1, 5), range(5), range(6)):
            seen = min(far, 5 - cell)
            expected = tuple(v for v in range(far + 1) if seen - error <= v <= seen + error)
            self.shows(expected, far, error, cell)


class TestMark(AnswerCase):

    def shows(self, expected, plan, confused):
        self.answers(expected, sensor_values, plan, (), ("mark", confused), None, 0, (), 0)

    def test_not_confused(self):
        for mark, sign in enumerate("abcdefgh"):
            self.shows((mark + 1,), (sign,), ())
        for sign in ".,+":
            self.shows((0,), (sign,), ())

    def test_gates_and_lids_have_the_mark_0(self):
        self.answers((0,), sensor_values, ("1",), (1,), MARK, None, 0, (), 0)
        self.answers((0,), sensor_values, ("A",), (0,), MARK, None, 0, (), 0)

    def test_confused_with_one(self):
        self.shows((1, 5), ("a",), ((1, 5),))
        self.shows((2, 5), ("e",), ((5, 2),))

    def test_confused_with_several_in_order(self):
        self.shows((0, 2, 3, 8), ("c",), ((3, 0), (3, 2), (3, 8)))
        self.shows(tuple(range(9)), ("a",), tuple((1, value) for value in (0, 2, 3, 4, 5, 6, 7, 8)))

    def test_confused_with_0_and_0_with_others(self):
        self.shows((0, 1), ("a",), ((1, 0),))
        self.shows((0, 4, 8), (".",), ((0, 4), (0, 8)))

    def test_pairs_of_other_marks_do_not_count(self):
        self.shows((1,), ("a",), ((0, 1), (2, 1), (5, 6)))
        self.shows((1, 3), ("a",), ((0, 2), (1, 3), (3, 4)))

    def test_movers_and_bumps_do_not_count(self):
        self.answers((1,), sensor_values, ("a.",), (), MARK, None, 0, (0, 1), 1)


class TestBump(AnswerCase):

    def test_it_shows_bumped(self):
        self.answers((0,), sensor_values, ROW, (), BUMP, None, 0, (), 0)
        self.answers((1,), sensor_values, ROW, (), BUMP, None, 0, (), 1)
        self.answers((0,), sensor_values, ROW, (), BUMP, None, 5, (5,), 0)


class TestNear(AnswerCase):

    def shows(self, expected, inner, outer, cell, others, plan=LARGE):
        self.answers(expected, sensor_values, plan, (), ("near", inner, outer), None, cell, others, 0)

    def test_without_others(self):
        self.shows((0,), 0, 0, 9, ())
        self.shows((0,), 16, 16, 9, ())

    def test_inner_outer_between_and_beyond(self):
        for steps, expected in enumerate(((1,), (1,), (0, 1), (0, 1), (0,), (0,))):
            self.shows(expected, 1, 3, 0, (steps,))
            self.shows(expected, 1, 3, 0, (8 * steps,))

    def test_no_gap(self):
        self.shows((1,), 2, 2, 0, (2,))
        self.shows((0,), 2, 2, 0, (3,))
        self.shows((1,), 0, 0, 4, (4,))
        self.shows((0,), 0, 0, 4, (5,))

    def test_inner_0_and_outer_16(self):
        self.shows((1,), 0, 16, 7, (7,))
        self.shows((0, 1), 0, 16, 7, (56,))
        self.shows((1,), 14, 14, 0, (63,))
        self.shows((0, 1), 13, 14, 0, (63,))
        self.shows((0,), 13, 13, 0, (63,))

    def test_lines_and_columns_are_added(self):
        self.shows((0,), 3, 3, 0, (18,))
        self.shows((1,), 4, 4, 0, (18,))
        self.shows((0,), 3, 3, 18, (0,))

    def test_the_end_of_a_line_is_far_from_the_next_line(self):
        self.shows((0,), 7, 7, 7, (8,))
        self.shows((1,), 8, 8, 7, (8,))

    def test_the_width_counts(self):
        self.shows((1,), 1, 1, 0, (3,), ("...", "..."))
        self.shows((0,), 1, 1, 0, (3,), ("......",))

    def test_the_nearest_of_several_counts(self):
        self.shows((1,), 1, 3, 0, (63, 1, 3))
        self.shows((0, 1), 1, 3, 0, (63, 3))
        self.shows((0,), 1, 3, 0, (63, 62))
        self.shows((1,), 1, 3, 0, (0, 63))
        self.shows((1,), 1, 3, 0, (1, 1))

    def test_walls_do_not_count(self):
        self.answers((1,), sensor_values, (".#.",), (), ("near", 2, 2), None, 0, (2,), 0)

    def test_bumped_does_not_count(self):
        self.answers((0,), sensor_values, LARGE, (), ("near", 1, 1), None, 0, (8 * 7,), 1)

    def test_all_by_the_definition(self):
        plan = ("...",) * 3
        for inner, more, cell, other in product(range(5), range(5), range(9), range(9)):
            steps = distance(3, cell, other)
            expected = (1,) if steps <= inner else (0,) if steps > inner + more else (0, 1)
            self.shows(expected, inner, inner + more, cell, (other,), plan)


class TestBroken(AnswerCase):

    def test_dead_shows_0_alone(self):
        for sensor in SORTS:
            self.answers((0,), sensor_values, ("a....",), (), sensor, "dead", 0, (0,), 1)

    def test_wild_shows_all_up_to_the_top(self):
        for sensor, top in zip(SORTS, (3, 8, 1, 1)):
            expected = tuple(range(top + 1))
            self.answers(expected, sensor_values, ("a....",), (), sensor, "wild", 0, (0,), 1)
            self.answers(expected, sensor_values, (".",), (), sensor, "wild", 0, (), 0)

    def test_wild_range_by_far(self):
        for far in range(1, 5):
            self.answers(tuple(range(far + 1)), sensor_values, ROW, (), ("range", 1, far, 0), "wild", 0, (), 0)
            self.answers((0,), sensor_values, ROW, (), ("range", 1, far, 0), "dead", 0, (), 0)

    def test_not_broken(self):
        for sensor, expected in zip(SORTS, ((2, 3), (1,), (1,), (1,))):
            self.answers(expected, sensor_values, ("a....",), (), sensor, None, 0, (0,), 1)


if __name__ == "__main__":
    unittest.main()
