import unittest
from itertools import product

from doubtborne.commands import ends_of, starts_of, sweeps, trails_of
from doubtborne.walking import walked
from tests.answers import MIXED, MIXED_SETTINGS, AnswerCase, free_by_sign, subsets

WAIT, NORTH, EAST, SOUTH, WEST = range(5)
PLAIN = (((0,),), ((0,),))
# Dry floor may push to the right, slick floor carries on or turns round.
PUSHES = (((0,), (0, 1)), ((), (0, 0), (0, 0, 0), (2,)))
DRIFTS = (("drift", EAST, (3,)), ("dead", 2), ("drift", SOUTH, (0, 1)))


def trails_by_definition(plan, pushes, faults, struck, cell, command):
    """All trails of the command."""
    if command == WAIT:
        return [()]
    found = set(pushes[1] if "".join(plan)[cell] == "," else pushes[0])
    for number in struck:
        if faults[number][0] == "drift" and faults[number][1] == command:
            found.add(faults[number][2])
    return sorted(found)


def gone_by_definition(plan, setting, pushes, faults, struck, cell, command):
    """What becomes of each trail."""
    trails = trails_by_definition(plan, pushes, faults, struck, cell, command)
    direction = command - 1 if command else 0
    return [walked(plan, setting, cell, direction, trail) for trail in trails]


def every_case():
    """Settings, struck faults, free cells and commands in the mixed plan."""
    for setting, struck in product(MIXED_SETTINGS[1:3], subsets(range(3))):
        for cell, command in product(free_by_sign(MIXED, setting), range(5)):
            yield setting, struck, cell, command


class TestTrailsOf(AnswerCase):

    def test_wait_on_dry_and_on_slick_floor(self):
        for cell in (0, 1):
            for struck in subsets(range(3)):
                self.answers(((),), trails_of, (".,",), PUSHES, DRIFTS, struck, cell, WAIT)

    def test_dry_and_slick_floor(self):
        for command in range(1, 5):
            self.answers(PUSHES[0], trails_of, (".,",), PUSHES, (), (), 0, command)
            self.answers(PUSHES[1], trails_of, (".,",), PUSHES, (), (), 1, command)

    def test_all_other_floor_is_dry(self):
        plan = (".+abcdef", "gh1A....")
        for cell in range(16):
            self.answers(PUSHES[0], trails_of, plan, PUSHES, (), (), cell, EAST)

    def test_a_drift_that_has_struck(self):
        self.answers(((0,), (0, 1), (3,)), trails_of, (".,",), PUSHES, DRIFTS, (0,), 0, EAST)
        self.answers(((), (0, 0), (0, 0, 0), (2,), (3,)), trails_of, (".,",), PUSHES, DRIFTS, (0,), 1, EAST)

    def test_a_drift_that_has_not_struck(self):
        self.answers(PUSHES[0], trails_of, (".,",), PUSHES, DRIFTS, (), 0, EAST)
        self.answers(PUSHES[0], trails_of, (".,",), PUSHES, DRIFTS, (1, 2), 0, EAST)

    def test_a_drift_of_another_command(self):
        for command in (NORTH, SOUTH, WEST):
            self.answers(PUSHES[0], trails_of, (".,",), PUSHES, DRIFTS, (0, 1), 0, command)

    def test_a_broken_sensor_is_no_drift(self):
        self.answers(PUSHES[0], trails_of, (".",), PUSHES, (("dead", EAST), ("wild", EAST)), (0, 1), 0, EAST)

    def test_a_drift_with_a_trail_of_the_pushes(self):
        self.answers(PUSHES[0], trails_of, (".,",), PUSHES, DRIFTS, (2,), 0, SOUTH)
        self.answers(((), (0, 0), (0, 0, 0), (0, 1), (2,)), trails_of, (".,",), PUSHES, DRIFTS, (2,), 1, SOUTH)

    def test_two_drifts_of_one_command(self):
        faults = (("drift", WEST, (3, 3)), ("drift", WEST, ()), ("drift", WEST, (1,)))
        self.answers(((), (0,), (1,), (3, 3)), trails_of, (".",), PLAIN, faults, (0, 1, 2), 0, WEST)
        self.answers(((0,), (1,), (3, 3)), trails_of, (".",), PLAIN, faults, (0, 2), 0, WEST)

    def test_four_trails_and_three_drifts(self):
        dry = ((), (0,), (1,), (2,))
        faults = (("drift", NORTH, (3,)), ("drift", NORTH, (0, 0, 0)), ("drift", NORTH, (1, 2, 3)))
        expected = ((), (0,), (0, 0, 0), (1,), (1, 2, 3), (2,), (3,))
        self.answers(expected, trails_of, (".",), (dry, PLAIN[1]), faults, (0, 1, 2), 0, NORTH)

    def test_all_by_the_definition(self):
        for _, struck, cell, command in every_case():
            expected = tuple(trails_by_definition(MIXED, PUSHES, DRIFTS, struck, cell, command))
            self.answers(expected, trails_of, MIXED, PUSHES, DRIFTS, struck, cell, command)


class TestEndsOf(AnswerCase):

    def test_wait(self):
        self.answers((0, (((1,), 0),)), ends_of, (".,*",), (), PUSHES, DRIFTS, (0, 2), 1, WAIT)

    def test_each_command_has_its_direction(self):
        plan = ("...",) * 3
        for command, cell in ((NORTH, 1), (EAST, 5), (SOUTH, 7), (WEST, 3)):
            self.answers((0, (((4, cell), 0),)), ends_of, plan, (), PLAIN, (), (), 4, command)

    def test_several_ends_ascending(self):
        plan = (",....", ".....")
        ends = (((0,), 0), ((0,), 1), ((0, 1, 2), 0), ((0, 1, 2, 3), 0))
        self.answers((0, ends), ends_of, plan, (), PUSHES, (), (), 0, EAST)

    def test_two_trails_with_one_end_are_told_once(self):
        pushes = (((1,), (3,)), PLAIN[1])
        self.answers((0, (((0,), 1),)), ends_of, ("..",), (), pushes, (), (), 0, EAST)

    def test_bumped_parts_two_ends_of_one_way(self):
        pushes = (((), (0,)), PLAIN[1])
        self.answers((0, (((0,), 0), ((0,), 1))), ends_of, (".#",), (), pushes, (), (), 0, EAST)

    def test_touch_beside_ends(self):
        self.answers((1, (((0,), 0),)), ends_of, (".*",), (), (((), (0,)), PLAIN[1]), (), (), 0, EAST)
        self.answers((1, (((0, 1), 0),)), ends_of, ("..!",), (), (((0,), (0, 0)), PLAIN[1]), (), (), 0, EAST)

    def test_touch_and_no_ends(self):
        self.answers((1, ()), ends_of, (".*",), (), PLAIN, (), (), 0, EAST)
        self.answers((1, ()), ends_of, ("..!",), (), (((0, 0), (0, 0, 2)), PLAIN[1]), (), (), 0, EAST)

    def test_a_drift_can_touch(self):
        plan, faults = ("*...",), (("drift", EAST, (2,)),)
        self.answers((0, (((1, 2), 0),)), ends_of, plan, (), PLAIN, faults, (), 1, EAST)
        self.answers((1, (((1, 2), 0),)), ends_of, plan, (), PLAIN, faults, (0,), 1, EAST)

    def test_doors_count(self):
        self.answers((0, (((0,), 1),)), ends_of, (".1",), (0,), PLAIN, (), (), 0, EAST)
        self.answers((0, (((0, 1), 0),)), ends_of, (".1",), (1,), PLAIN, (), (), 0, EAST)
        self.answers((1, ()), ends_of, (".A",), (1,), PLAIN, (), (), 0, EAST)

    def test_all_by_the_definition(self):
        for setting, struck, cell, command in every_case():
            gone = gone_by_definition(MIXED, setting, PUSHES, DRIFTS, struck, cell, command)
            touch = 1 if any(one[0] == "touch" for one in gone) else 0
            ends = tuple(sorted({one[1:] for one in gone if one[0] == "end"}))
            self.answers((touch, ends), ends_of, MIXED, setting, PUSHES, DRIFTS, struck, cell, command)


class TestSweeps(AnswerCase):

    def test_wait_sweeps_its_own_cell(self):
        self.answers((1,), sweeps, ("*,*",), (), PUSHES, DRIFTS, (0, 2), 1, WAIT)

    def test_first_and_last_cells_and_those_between(self):
        self.answers((0, 1, 2, 3), sweeps, ("....",), (), (((0, 0, 0),), PLAIN[1]), (), (), 0, EAST)

    def test_all_trails_count(self):
        plan = ("...",) * 3
        pushes = (((0,), (0, 1), (2,)), PLAIN[1])
        self.answers((3, 4, 5, 8), sweeps, plan, (), pushes, (), (), 4, EAST)

    def test_glass_and_holes_are_swept(self):
        for sign in "*!":
            self.answers((0, 1), sweeps, ("." + sign + ".",), (), PLAIN, (), (), 0, EAST)
            self.answers((0, 1, 2), sweeps, (".." + sign + ".",), (), (((0, 0, 0),), PLAIN[1]), (), (), 0, EAST)

    def test_walls_are_not_swept(self):
        self.answers((0,), sweeps, (".#",), (), PLAIN, (), (), 0, EAST)
        self.answers((0,), sweeps, (".1",), (0,), PLAIN, (), (), 0, EAST)
        self.answers((0, 1), sweeps, (".1",), (1,), PLAIN, (), (), 0, EAST)

    def test_slick_floor_and_drifts(self):
        plan = ("......",)
        self.answers((1, 2), sweeps, plan, (), PLAIN, (("drift", EAST, (2,)),), (), 1, EAST)
        self.answers((0, 1, 2), sweeps, plan, (), PLAIN, (("drift", EAST, (2,)),), (0,), 1, EAST)
        self.answers((0, 1, 2, 3, 4), sweeps, (".,....",), (), PUSHES, (), (), 1, EAST)

    def test_a_command_may_touch_exactly_if_it_may_sweep_glass_or_a_hole(self):
        for setting, struck, cell, command in every_case():
            gone = gone_by_definition(MIXED, setting, PUSHES, DRIFTS, struck, cell, command)
            expected = tuple(sorted({swept for one in gone for swept in one[1]}))
            self.answers(expected, sweeps, MIXED, setting, PUSHES, DRIFTS, struck, cell, command)
            free = set(free_by_sign(MIXED, setting))
            touch, _ = ends_of(MIXED, setting, PUSHES, DRIFTS, struck, cell, command)
            self.assertEqual(touch == 1, bool(set(expected) - free))


class TestStartsOf(AnswerCase):

    def test_wait_ends_where_it_begins(self):
        self.answers((1,), starts_of, ("...",), (), PUSHES, DRIFTS, (0, 2), 1, WAIT)

    def test_each_command(self):
        plan = ("...",) * 3
        for command, cell in ((NORTH, 7), (EAST, 3), (SOUTH, 1), (WEST, 5)):
            self.answers((cell,), starts_of, plan, (), PLAIN, (), (), 4, command)

    def test_a_start_that_is_stopped_at_once(self):
        self.answers((1, 2), starts_of, ("...",), (), PLAIN, (), (), 2, EAST)
        self.answers((1, 2), starts_of, ("...#",), (), PLAIN, (), (), 2, EAST)

    def test_no_start(self):
        self.answers((), starts_of, ("...",), (), PLAIN, (), (), 0, EAST)

    def test_one_of_several_trails_is_enough(self):
        pushes = (((0,), (0, 0)), PLAIN[1])
        self.answers((0, 1), starts_of, ("....",), (), pushes, (), (), 2, EAST)
        self.answers((1, 2, 3), starts_of, ("....",), (), pushes, (), (), 3, EAST)

    def test_passing_through_is_not_ending(self):
        self.answers((), starts_of, ("....",), (), (((0, 0),), PLAIN[1]), (), (), 1, EAST)

    def test_a_start_whose_other_trail_touches(self):
        pushes = (((0,), (0, 0)), PLAIN[1])
        self.answers((0,), starts_of, ("..*",), (), pushes, (), (), 1, EAST)

    def test_a_start_whose_trail_would_touch(self):
        self.answers((), starts_of, (".!..",), (), (((0, 0),), PLAIN[1]), (), (), 2, EAST)
        self.answers((), starts_of, (".*",), (), PLAIN, (), (), 0, EAST)
        self.answers((), starts_of, (".*.",), (), (((0, 2),), PLAIN[1]), (), (), 0, EAST)

    def test_starts_are_free_cells(self):
        self.answers((1,), starts_of, ("1.#",), (0,), PLAIN, (), (), 1, EAST)
        self.answers((0, 1), starts_of, ("1.#",), (1,), PLAIN, (), (), 1, EAST)
        for sign in "#*!":
            self.answers((1,), starts_of, (sign + ".#",), (), PLAIN, (), (), 1, EAST)

    def test_the_floor_of_the_start_counts(self):
        pushes = (((0,),), ((0, 0),))
        self.answers((0, 1), starts_of, (",...",), (), pushes, (), (), 2, EAST)
        self.answers((), starts_of, (",...",), (), pushes, (), (), 1, EAST)

    def test_drifts_that_have_struck(self):
        faults = (("drift", EAST, (2,)),)
        self.answers((1,), starts_of, ("....",), (), PLAIN, faults, (), 2, EAST)
        self.answers((1, 3), starts_of, ("....",), (), PLAIN, faults, (0,), 2, EAST)
        self.answers((3,), starts_of, ("....",), (), PLAIN, faults, (0,), 2, WEST)

    def test_all_by_the_definition(self):
        for setting, struck, cell, command in every_case():
            expected = tuple(
                start for start in free_by_sign(MIXED, setting)
                if any(one[0] == "end" and one[1][-1] == cell for one in gone_by_definition(
                    MIXED, setting, PUSHES, DRIFTS, struck, start, command)))
            self.answers(expected, starts_of, MIXED, setting, PUSHES, DRIFTS, struck, cell, command)

    def test_64_cells(self):
        plan = ("." * 8,) * 8
        self.answers((55, 63), starts_of, plan, (), PLAIN, (), (), 63, SOUTH)
        self.answers((62, 63), starts_of, plan, (), PLAIN, (), (), 63, EAST)


if __name__ == "__main__":
    unittest.main()
