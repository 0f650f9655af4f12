import unittest

from doubtborne.errors import TooMany
from doubtborne.solving import solved
from doubtborne.webs import web
from tests.answers import SMALL_TABLE, TOUCH, AnswerCase
from tests.sample_tables import (
    MOST_WEBS, TOO_LARGE_WEBS, VARIED, beliefs_of, ended_by_definition, least_borne, line_table, moves_of,
    steps_by_definition, web_by_definition, with_short_cut)

LIMIT = {"limit": 400}
GOAL = ((1,),)


def solved_by_definition(table, goals, start, steps):
    """The triples of all beliefs of the web: point 59, word for word; steps are those of all borne beliefs."""
    found = []
    for belief in sorted(web_by_definition(table, goals, start)):
        command = None
        if belief in steps and not ended_by_definition(goals, belief):
            command = min(
                number for number, others in moves_of(table, belief).items()
                if all(steps.get(other, steps[belief]) < steps[belief] for other in others.values()))
        found.append((belief, steps.get(belief), command))
    return tuple(found)


class TestSolved(AnswerCase):

    def test_a_start_alone(self):
        self.answers((((0,), None, None),), solved, ((((0, 0),),),), (), (0,))
        self.answers((((0,), None, None),), solved, (((TOUCH,),),), (), (0,))
        self.answers((((1,), None, None),), solved, SMALL_TABLE, (), (1,))

    def test_an_ended_start(self):
        self.answers((((1,), 0, None),), solved, SMALL_TABLE, GOAL, (1,))
        self.answers((((0,), 0, None),), solved, SMALL_TABLE, ((0, 1), (1,)), (0,))

    def test_ordinary(self):
        self.answers((((0,), 1, 1), ((0, 1), None, None), ((1,), 0, None)), solved, SMALL_TABLE, GOAL, (0,))
        self.answers(
            (((1,), 3, 0), ((2,), 2, 0), ((3,), 1, 0), ((4,), 0, None)), solved, line_table(5), ((4,),), (1,))

    def test_beliefs_that_are_not_borne(self):
        self.answers((((0, 1), None, None), ((1,), 0, None)), solved, SMALL_TABLE, GOAL, (0, 1))
        self.answers(
            tuple(((world,), None, None) for world in range(1, 5)), solved, line_table(5), (), (1,))
        self.answers(
            (((2,), None, None), ((3,), None, None), ((4,), None, None)), solved, line_table(5), ((1,),), (2,))

    def test_the_least_of_several_right_commands(self):
        # From 0 the commands 1 and 3 lead to the goal at once, 0 by way of 1, and 2 may touch.
        table = (
            (((0, 1),), ((0, 2),), (TOUCH, (0, 2)), ((0, 2),)), (((0, 0),), (TOUCH,), ((0, 2),), ((0, 2),)),
            (((0, 2),),) * 4)
        self.answers((((0,), 1, 1), ((1,), 1, 2), ((2,), 0, None)), solved, table, ((2,),), (0,))

    def test_a_command_behind_which_only_some_beliefs_have_fewer_steps(self):
        table = ((((0, 2), (1, 1)), ((0, 1),)), (((0, 2),), ((0, 2),)), (((0, 2),), ((0, 2),)))
        self.answers((((0,), 2, 0), ((1,), 1, 0), ((2,), 0, None)), solved, table, ((2,),), (0,))
        table = ((((0, 2), (1, 0)), ((0, 1),)), (((0, 2),), ((0, 2),)), (((0, 2),), ((0, 2),)))
        self.answers((((0,), 2, 1), ((1,), 1, 0), ((2,), 0, None)), solved, table, ((2,),), (0,))

    def test_by_the_definition(self):
        for table, goals in VARIED:
            steps = steps_by_definition(table, goals)
            for start in beliefs_of(table):
                found = solved_by_definition(table, goals, start, steps)
                self.answers(found, solved, table, goals, start)
                self.ascends([triple[0] for triple in found])
                self.assertEqual(tuple(triple[0] for triple in found), web(table, goals, start))

    def test_the_web_is_needed(self):
        self.assertEqual(len(solved(line_table(400), ((399,),), (0,))), 400)
        table, start = MOST_WEBS[1]
        found = solved(table, ((15, 40),), start)
        self.assertEqual(len(found), 400)
        self.assertEqual(dict(triple[:2] for triple in found)[start], least_borne(table, ((15, 40),), start))
        for table, start in TOO_LARGE_WEBS:
            self.raises(TooMany, LIMIT, solved, table, (), start)
            self.raises(TooMany, LIMIT, solved, with_short_cut(table), ((len(table) - 1,),), start)
            self.answers(((start, 0, None),), solved, table, (start,), start)


if __name__ == "__main__":
    unittest.main()
