import unittest
from itertools import product

from doubtborne.worlds import outcomes, start_worlds
from tests.answers import AnswerCase, every_setting
from tests.sample_books import (
    DONE, EAST, NORTH, SOUTH, VARIED, WAIT, WEST, book, outcomes_by_definition, standing, starts_by_definition,
    worlds_by_definition)

FAIL = ("fail",)
A, B = ("at", 1), ("at", 2)


def fro(first, second):
    """A mover that goes to and fro between two cells."""
    return ("mover", (first, second), ((1,), (0,)))


def world(cell, setting=(), posts=(), struck=(), left=DONE):
    """A world of a book, by its cell alone if it has nothing else."""
    return (setting, cell, posts, struck, left)


def behind(*cells):
    """The outcomes of a book without sensors that lead to these cells."""
    return tuple(((), world(cell)) for cell in cells)


class TestStartWorlds(AnswerCase):

    def test_ordinary(self):
        self.answers((world(0),), start_worlds, book())
        self.answers((world(0), world(1)), start_worlds, book(cells=(0, 1)))

    def test_no_rule(self):
        made = book(plan=("..12",), cells=(0, 1))
        expected = tuple(world(cell, setting) for setting in every_setting(2) for cell in (0, 1))
        self.answers(expected, start_worlds, made)

    def test_a_rule_that_leaves_one_case(self):
        made = book(plan=("..12",), rules=(("least", 2, (-1, 2)),), cells=(0, 1))
        self.answers((world(0, (0, 1)), world(1, (0, 1))), start_worlds, made)

    def test_a_rule_that_leaves_none(self):
        self.answers((), start_worlds, book(plan=(".1",), rules=(("least", 2, (1, -1)), ("most", 0, (1, -1)))))

    def test_cells_that_are_no_floor(self):
        self.answers((world(3),), start_worlds, book(plan=("#*!.",), cells=(0, 1, 2, 3)))
        self.answers((), start_worlds, book(plan=("#*!.",), cells=(0, 1, 2)))

    def test_cells_that_are_a_wall_or_a_hole_in_some_case(self):
        made = book(plan=(".1A",), cells=(0, 1, 2))
        self.answers((world(0, (0,)), world(2, (0,)), world(0, (1,)), world(1, (1,))), start_worlds, made)

    def test_a_mover_that_begins_at_the_cell_of_the_robot(self):
        made = book(plan=("...",), movers=(fro(0, 2),), cells=(0, 1, 2), posts=((0, 1),))
        expected = ((0, (1,)), (1, (0,)), (1, (1,)), (2, (0,)))
        self.answers(tuple(world(cell, posts=posts) for cell, posts in expected), start_worlds, made)

    def test_two_movers(self):
        made = book(plan=("...",), movers=(fro(0, 2), fro(1, 0)), cells=(0, 2), posts=((0, 1), (0, 1)))
        expected = ((0, (1, 0)), (2, (0, 0)), (2, (0, 1)))
        self.answers(tuple(world(cell, posts=posts) for cell, posts in expected), start_worlds, made)

    def test_two_movers_at_one_cell(self):
        made = book(plan=("...",), movers=(standing(1), standing(1)), cells=(0, 1))
        self.answers((world(0, posts=(0, 0)),), start_worlds, made)

    def test_two_posts_with_one_cell(self):
        made = book(movers=(("mover", (1, 1), ((0,), (1,))),), posts=((0, 1),))
        self.answers((world(0, posts=(0,)), world(0, posts=(1,))), start_worlds, made)

    def test_no_fault_has_struck(self):
        made = book(faults=(("drift", 1, ()), ("drift", 2, ())), most=2)
        self.answers((world(0),), start_worlds, made)

    def test_a_task_that_is_done_at_the_start(self):
        made = book(plan=("a.",), task=("both", A, ("within", 0, A)), cells=(0, 1))
        self.answers((world(0), world(1, left=FAIL)), start_worlds, made)

    def test_a_task_that_fails_at_the_start(self):
        made = book(plan=("a.",), task=("without", 1, B), cells=(0, 1))
        self.answers((world(0, left=FAIL), world(1, left=("without", 1, B))), start_worlds, made)

    def test_the_rest_behind_the_mark(self):
        made = book(plan=("ab.",), task=("then", A, ("within", 3, B)), cells=(0, 1, 2))
        task = ("then", A, ("within", 3, B))
        expected = (world(0, left=("within", 2, B)), world(1, left=task), world(2, left=task))
        self.answers(expected, start_worlds, made)

    def test_by_the_definition(self):
        for made in VARIED:
            expected = starts_by_definition(made)
            self.ascends(expected)
            self.answers(expected, start_worlds, made)


class TestCommands(AnswerCase):

    def test_wait_and_the_four_commands(self):
        made = book(plan=("...",) * 3)
        for command, cell in ((WAIT, 4), (NORTH, 1), (EAST, 5), (SOUTH, 7), (WEST, 3)):
            self.answers((0, behind(cell)), outcomes, made, world(4), command)

    def test_walls_and_the_end_of_the_plan(self):
        made = book(plan=(".#",))
        for command in range(5):
            self.answers((0, behind(0)), outcomes, made, world(0), command)

    def test_glass_and_holes(self):
        for sign in "*!":
            made = book(plan=("." + sign + ".",))
            self.answers((1, ()), outcomes, made, world(0), EAST)
            self.answers((1, ()), outcomes, made, world(2), WEST)
            self.answers((0, behind(0)), outcomes, made, world(0), WEST)

    def test_gates_and_lids(self):
        made = book(plan=("1.A",), cells=(1,))
        for setting, west, east in (((0,), 1, 2), ((1,), 0, None)):
            self.answers((0, (((), world(west, setting)),)), outcomes, made, world(1, setting), WEST)
            expected = (1, ()) if east is None else (0, (((), world(east, setting)),))
            self.answers(expected, outcomes, made, world(1, setting), EAST)

    def test_several_trails(self):
        made = book(plan=("...", ".*.", "..."), pushes=(((), (0,), (0, 0), (1,)), ((0,),)))
        self.answers((0, behind(0, 1, 2, 3)), outcomes, made, world(0), EAST)
        self.answers((1, behind(1, 2)), outcomes, made, world(1), EAST)

    def test_slick_floor(self):
        made = book(plan=(",...",), pushes=(((0,),), ((0, 0), (0, 0, 0))))
        self.answers((0, behind(2, 3)), outcomes, made, world(0), EAST)
        self.answers((0, behind(2)), outcomes, made, world(1), EAST)
        self.answers((0, behind(0)), outcomes, made, world(0), WAIT)

    def test_the_rest_goes_on_behind_the_mark_of_the_end_alone(self):
        made = book(plan=(".abc",), pushes=(((0, 0),), ((0,),)), task=("then", A, B))
        task = ("then", A, B)
        self.answers((0, (((), world(2, left=task)),)), outcomes, made, world(0, left=task), EAST)
        self.answers((0, (((), world(3, left=task)),)), outcomes, made, world(1, left=task), EAST)
        self.answers((0, (((), world(1, left=B)),)), outcomes, made, world(1, left=task), WAIT)
        self.answers((0, (((), world(1, left=B)),)), outcomes, made, world(3, left=task), WEST)

    def test_a_task_that_is_done_stays_so(self):
        made = book(plan=("a.",), task=A)
        self.answers((0, (((), world(1, left=DONE)),)), outcomes, made, world(0, left=DONE), EAST)
        self.answers((0, (((), world(0, left=FAIL)),)), outcomes, made, world(1, left=FAIL), WEST)


class TestMovers(AnswerCase):

    def test_a_mover_that_comes(self):
        made = book(plan=("...",), movers=(fro(2, 1),))
        self.answers((1, ()), outcomes, made, world(1, posts=(0,)), WAIT)
        self.answers((1, ()), outcomes, made, world(0, posts=(0,)), EAST)
        self.answers((0, (((), world(0, posts=(1,))),)), outcomes, made, world(0, posts=(0,)), WAIT)

    def test_a_mover_that_leaves(self):
        made = book(plan=("...",), movers=(("mover", (1, 2), ((1,), (1,))),))
        self.answers((1, ()), outcomes, made, world(0, posts=(0,)), EAST)
        self.answers((0, (((), world(0, posts=(1,))),)), outcomes, made, world(0, posts=(0,)), WAIT)
        self.answers((0, (((), world(1, posts=(1,))),)), outcomes, made, world(0, posts=(1,)), EAST)

    def test_a_mover_at_a_cell_that_is_gone_through(self):
        made = book(plan=("....",), pushes=(((0, 0, 0),), ((0,),)), movers=(standing(1),))
        self.answers((1, ()), outcomes, made, world(0, posts=(0,)), EAST)

    def test_a_mover_that_comes_to_the_cell_that_the_robot_leaves(self):
        made = book(plan=("...",), movers=(fro(2, 1),))
        self.answers((1, ()), outcomes, made, world(1, posts=(0,)), WEST)

    def test_a_mover_with_several_ways(self):
        made = book(plan=("....",), movers=(("mover", (3, 1, 2), ((0, 1, 2), (0,), (0,))),))
        self.answers((1, (((), world(1, posts=(0,))), ((), world(1, posts=(2,))))), outcomes, made,
                     world(0, posts=(0,)), EAST)

    def test_several_movers(self):
        first, second = ("mover", (2, 5), ((0, 1), (1,))), ("mover", (4, 1), ((0, 1), (0,)))
        made = book(plan=("...", "..."), movers=(first, second))
        choices = tuple(((), world(0, posts=posts)) for posts in ((0, 0), (0, 1), (1, 0), (1, 1)))
        self.answers((0, choices), outcomes, made, world(0, posts=(0, 0)), WAIT)
        self.answers((1, ()), outcomes, made, world(0, posts=(0, 1)), EAST)
        choices = tuple(((), world(1, posts=posts)) for posts in ((0, 0), (1, 0)))
        self.answers((1, choices), outcomes, made, world(0, posts=(0, 0)), EAST)

    def test_movers_go_through_walls(self):
        made = book(plan=(".#.",), movers=(("mover", (2, 1, 0), ((1,), (2,), (2,))),))
        self.answers((0, (((), world(0, posts=(1,))),)), outcomes, made, world(0, posts=(0,)), WAIT)
        self.answers((1, ()), outcomes, made, world(0, posts=(1,)), WAIT)

    def test_no_outcomes_but_a_touch(self):
        made = book(plan=("..",), movers=(standing(1),))
        self.answers((1, ()), outcomes, made, world(0, posts=(0,)), EAST)


class TestFaults(AnswerCase):

    DRIFTS = (("drift", EAST, ()), ("drift", EAST, (2,)))

    def test_faults_that_strike_now(self):
        made = book(plan=("...",), faults=self.DRIFTS, most=1)
        expected = tuple(
            ((), world(cell, struck=struck)) for cell, struck in ((0, (1,)), (1, (0,)), (2, ()), (2, (0,)), (2, (1,))))
        self.answers((0, expected), outcomes, made, world(1), EAST)

    def test_faults_that_have_struck(self):
        made = book(plan=("...",), faults=self.DRIFTS, most=1)
        expected = tuple(((), world(cell, struck=(0,))) for cell in (1, 2))
        self.answers((0, expected), outcomes, made, world(1, struck=(0,)), EAST)

    def test_faults_that_cannot_strike_any_more(self):
        made = book(plan=("...",), faults=self.DRIFTS, most=0)
        self.answers((0, behind(2)), outcomes, made, world(1), EAST)
        made = book(plan=("...",), faults=self.DRIFTS, most=3)
        self.answers(((), world(0, struck=(0, 1))), outcomes(made, world(1, struck=(0,)), EAST)[1].__getitem__, 0)

    def test_faults_strike_with_other_commands_too(self):
        made = book(plan=("...",), faults=self.DRIFTS, most=2)
        expected = tuple(((), world(1, struck=struck)) for struck in ((), (0,), (0, 1), (1,)))
        self.answers((0, expected), outcomes, made, world(1), WAIT)

    def test_a_drift_may_touch(self):
        made = book(plan=("!..",), faults=(("drift", EAST, (2,)),), most=1)
        expected = tuple(((), world(2, struck=struck)) for struck in ((), (0,)))
        self.answers((1, expected), outcomes, made, world(1), EAST)


class TestReadings(AnswerCase):

    def shown(self, expected, made, start, command):
        """The readings with the cells and struck faults behind them."""
        touch, pairs = outcomes(made, start, command)
        self.answers((touch, pairs), outcomes, made, start, command)
        self.assertEqual([(reading, after[1], after[3]) for reading, after in pairs], expected)

    def test_the_end_is_what_is_seen(self):
        made = book(plan=("..a#",), sensors=(("range", 1, 4, 0), ("mark", ())))
        self.shown([((1, 0), 1, ())], made, world(0), EAST)
        self.shown([((0, 1), 2, ())], made, world(1), EAST)

    def test_errors(self):
        made = book(plan=("...",), sensors=(("range", 1, 4, 1), ("mark", ((0, 5),))))
        self.shown([((r, m), 1, ()) for r in (0, 1, 2) for m in (0, 5)], made, world(0), EAST)

    def test_bumped(self):
        made = book(plan=("..",), sensors=(("bump",),), pushes=(((0,), (1,)), ((0,),)))
        self.shown([((0,), 1, ()), ((1,), 0, ())], made, world(0), EAST)
        self.shown([((0,), 0, ())], made, world(0), WAIT)

    def test_bumped_behind_a_part_of_the_trail(self):
        made = book(plan=("..",), sensors=(("bump",),), pushes=(((0,), (0, 0)), ((0,),)))
        self.shown([((0,), 1, ()), ((1,), 1, ())], made, world(0), EAST)

    def test_movers_new_cells(self):
        made = book(plan=("....",), sensors=(("near", 1, 1),), movers=(("mover", (3, 2), ((1,), (0,))),))
        self.shown([((0,), 0, ())], made, world(0, posts=(0,)), WAIT)
        self.shown([((1,), 1, ())], made, world(0, posts=(0,)), EAST)

    def test_sensors_that_are_broken_now(self):
        made = book(plan=("a.",), sensors=(("mark", ()),), faults=(("dead", 0), ("wild", 0)), most=1)
        expected = [((0,), 0, (0,))] + [((0,), 0, (1,))] + [((1,), 0, ()), ((1,), 0, (1,))]
        expected += [((value,), 0, (1,)) for value in range(2, 9)]
        self.shown(expected, made, world(0), WAIT)

    def test_sensors_that_have_been_broken(self):
        made = book(plan=("a.",), sensors=(("bump",), ("mark", ())), faults=(("dead", 1), ("wild", 0)), most=1)
        self.shown([((0, 0), 0, (0,))], made, world(0, struck=(0,)), WAIT)
        self.shown([((0, 1), 0, (1,)), ((1, 1), 0, (1,))], made, world(0, struck=(1,)), WAIT)

    def test_wild_comes_ahead_of_dead(self):
        made = book(plan=("a.",), sensors=(("bump",),), faults=(("dead", 0), ("wild", 0)), most=2)
        self.shown([((0,), 0, (0, 1)), ((1,), 0, (0, 1))], made, world(0, struck=(0, 1)), WAIT)


class TestByTheDefinition(AnswerCase):

    def test_all_worlds_and_commands(self):
        for made in VARIED:
            for one, command in product(sorted(worlds_by_definition(made)), range(5)):
                expected = outcomes_by_definition(made, one, command)
                self.answers(expected, outcomes, made, one, command)

    def test_what_the_books_bring(self):
        """The books have steps of each sort, so that what is told of all of them is told of something."""
        for made, touching, alone in zip(VARIED, (0, 1, 0, 1, 1), (0, 1, 0, 1, 1)):
            found = [outcomes(made, one, command) for one in worlds_by_definition(made) for command in range(5)]
            self.assertEqual(any(touch for touch, _ in found), touching == 1)
            self.assertEqual((1, ()) in found, alone == 1)


if __name__ == "__main__":
    unittest.main()
