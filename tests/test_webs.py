import unittest

from doubtborne.errors import TooMany
from doubtborne.webs import steps_of, web
from tests.answers import SMALL_TABLE, TOUCH, AnswerCase
from tests.sample_tables import (
    MOST_WEBS, TOO_LARGE_WEBS, VARIED, beliefs_of, line_table, steps_by_definition, web_by_definition,
    with_short_cut)

GOAL = ((1,),)
LIMIT = {"limit": 400}


class TestWeb(AnswerCase):

    def test_the_start_alone(self):
        self.answers(((0,),), web, ((((0, 0),),),), (), (0,))
        self.answers(((0,),), web, (((TOUCH, (0, 0)),),), (), (0,))

    def test_an_ended_start(self):
        self.answers(((1,),), web, SMALL_TABLE, GOAL, (1,))
        self.answers(((0,),), web, SMALL_TABLE, ((0, 1),), (0,))

    def test_an_ended_belief_is_not_left(self):
        table = line_table(5)
        self.answers(((0,), (1,), (2,)), web, table, ((2, 4),), (0,))
        self.answers(((0,), (1,), (2,), (3,), (4,)), web, table, (), (0,))

    def test_a_command_that_may_touch(self):
        self.answers(((0,), (0, 1), (1,)), web, SMALL_TABLE, GOAL, (0,))
        self.answers(((0, 1), (1,)), web, SMALL_TABLE, (), (0, 1))
        self.answers(((1,),), web, SMALL_TABLE, (), (1,))

    def test_several_commands_and_readings(self):
        table = ((((0, 1), (0, 2), (3, 0)), ((1, 2),)), (((0, 1),), ((0, 1),)), (((0, 2),), ((0, 2),)))
        self.answers(((0,), (1, 2), (2,)), web, table, (), (0,))
        self.answers(((0,), (1, 2), (2,)), web, table, ((1,),), (0,))
        self.answers(((1, 2),), web, table, ((0, 1, 2),), (1, 2))

    def test_no_goals(self):
        self.answers(tuple((world,) for world in range(9)), web, line_table(9), (), (0,))

    def test_by_the_definition(self):
        for table, goals in VARIED:
            for start in beliefs_of(table):
                expected = tuple(sorted(web_by_definition(table, goals, start)))
                self.answers(expected, web, table, goals, start)

    def test_exactly_400_and_more(self):
        for table, start in MOST_WEBS:
            expected = tuple(sorted(web_by_definition(table, (), start)))
            self.assertEqual(len(expected), 400)
            self.answers(expected, web, table, (), start)
        for (table, start), many in zip(TOO_LARGE_WEBS, (401, 420)):
            self.assertEqual(len(web_by_definition(table, (), start)), many)
            self.raises(TooMany, LIMIT, web, table, (), start)


class TestStepsOf(AnswerCase):

    def test_the_document(self):
        self.answers(1, steps_of, SMALL_TABLE, GOAL, (0,))
        self.answers(None, steps_of, SMALL_TABLE, GOAL, (0, 1))

    def test_0(self):
        self.answers(0, steps_of, SMALL_TABLE, GOAL, (1,))
        self.answers(0, steps_of, SMALL_TABLE, ((0, 1),), (1,))
        self.answers(0, steps_of, SMALL_TABLE, ((0,), (1,)), (1,))

    def test_several(self):
        for steps in range(9):
            self.answers(steps, steps_of, line_table(9), ((8,),), (8 - steps,))
            self.answers(max(0, steps - 2), steps_of, line_table(9), ((8,), (6, 7, 8)), (8 - steps,))

    def test_the_least_over_commands_and_the_greatest_over_readings(self):
        table = (
            (((0, 1), (1, 2)), ((0, 3),)), (((0, 4),), ((0, 1),)), (((0, 1),), ((0, 2),)),
            (((0, 2),), ((0, 3),)), (((0, 4),), ((0, 4),)))
        self.answers(1, steps_of, table, ((4,),), (1,))
        self.answers(2, steps_of, table, ((4,),), (2,))
        self.answers(3, steps_of, table, ((4,),), (3,))
        self.answers(3, steps_of, table, ((4,),), (0,))

    def test_none(self):
        self.answers(None, steps_of, line_table(5), (), (0,))
        self.answers(None, steps_of, line_table(5), ((2,),), (3,))
        self.answers(None, steps_of, (((TOUCH,),), (((0, 1),),)), ((1,),), (0,))

    def test_a_command_that_may_touch_is_not_given(self):
        table = ((((0, 0),), (TOUCH, (0, 1))), (((0, 1),), ((0, 1),)))
        self.answers(None, steps_of, table, ((1,),), (0,))

    def test_what_is_read_can_be_needed(self):
        table = ((((0, 2),), ((0, 0),)), (((1, 3),), ((0, 1),)), (((0, 4),), (TOUCH,)), ((TOUCH,), ((0, 4),)),
                 (((0, 4),), ((0, 4),)))
        self.answers(2, steps_of, table, ((4,),), (0, 1))
        blind = tuple(tuple(tuple((min(0, r), w) for r, w in pairs) for pairs in row) for row in table)
        self.answers(None, steps_of, blind, ((4,),), (0, 1))

    def test_by_the_definition(self):
        found = set()
        for table, goals in VARIED:
            steps = steps_by_definition(table, goals)
            for start in beliefs_of(table):
                self.answers(steps.get(start), steps_of, table, goals, start)
                found.add(steps.get(start))
        self.assertGreaterEqual(found, {None, 0, 1, 2, 3})

    def test_beliefs_inside_a_borne_one_have_no_more_steps(self):
        for table, goals in VARIED:
            for start in beliefs_of(table):
                steps = steps_of(table, goals, start)
                for less in beliefs_of(table):
                    if steps is not None and set(less) <= set(start):
                        self.assertLessEqual(steps_of(table, goals, less), steps)

    def test_exactly_400_and_more(self):
        self.answers(399, steps_of, line_table(400), ((399,),), (0,))
        self.answers(399, steps_of, MOST_WEBS[1][0], ((15, 40),), (0, 16))
        for table, start in TOO_LARGE_WEBS:
            self.raises(TooMany, LIMIT, steps_of, table, (), start)

    def test_too_many_also_where_the_answer_is_near(self):
        for table, start in TOO_LARGE_WEBS:
            last = (len(table) - 1,)
            self.raises(TooMany, LIMIT, steps_of, with_short_cut(table), (last,), start)
            self.answers(0, steps_of, with_short_cut(table), (start,), start)


if __name__ == "__main__":
    unittest.main()
