import unittest

from doubtborne.tables import (
    after, beliefs_after, both_goals, ended, is_belief, is_command, is_table, may_touch, readings_after)
from tests.answers import SMALL_TABLE, TOUCH, AnswerCase, subsets

# Three worlds, one command: readings with several worlds, and a touch beside them.
FORKED = ((((2, 0), (2, 2), (5, 1)),), ((TOUCH, (0, 1), (2, 1)),), ((TOUCH,),))


def with_outcomes(outcomes):
    """A table of two worlds and two commands with these outcomes in one place."""
    return (SMALL_TABLE[0], (((1, 1),), outcomes))


class TestIsTable(AnswerCase):

    def test_right_ones(self):
        self.says(True, is_table, SMALL_TABLE)
        self.says(True, is_table, FORKED)
        self.says(True, is_table, ((((0, 0),),),))

    def test_number_of_worlds(self):
        row = (((0, 0),),)
        self.says(False, is_table, ())
        self.says(True, is_table, (row,))
        self.says(True, is_table, (row,) * 400)
        self.says(False, is_table, (row,) * 401)

    def test_number_of_commands(self):
        outcomes = ((0, 0),)
        self.says(False, is_table, ((),))
        self.says(False, is_table, ((), ()))
        self.says(True, is_table, ((outcomes,) * 6,))
        self.says(False, is_table, ((outcomes,) * 7,))

    def test_rows_of_unlike_lengths(self):
        outcomes = ((0, 0),)
        self.says(False, is_table, ((outcomes, outcomes), (outcomes,)))
        self.says(False, is_table, ((outcomes,), (outcomes, outcomes)))
        self.says(False, is_table, ((outcomes,), ()))

    def test_no_outcome(self):
        self.says(False, is_table, with_outcomes(()))

    def test_bounds_of_readings(self):
        self.says(True, is_table, with_outcomes(((0, 0), (399, 0))))
        self.says(False, is_table, with_outcomes(((400, 0),)))
        self.says(False, is_table, with_outcomes(((-2, 0),)))
        self.says(False, is_table, with_outcomes(((1000, 0),)))

    def test_bounds_of_worlds(self):
        self.says(True, is_table, with_outcomes(((0, 1),)))
        self.says(False, is_table, with_outcomes(((0, 2),)))
        self.says(False, is_table, with_outcomes(((0, -2),)))

    def test_minus_one_on_one_side_alone(self):
        self.says(False, is_table, with_outcomes(((-1, 0),)))
        self.says(False, is_table, with_outcomes(((0, -1),)))
        self.says(False, is_table, with_outcomes(((-2, -2),)))

    def test_the_touch_pair(self):
        self.says(True, is_table, with_outcomes((TOUCH,)))
        self.says(True, is_table, with_outcomes((TOUCH, (0, 0))))
        self.says(False, is_table, with_outcomes(((0, 0), TOUCH)))
        self.says(False, is_table, with_outcomes((TOUCH, TOUCH)))
        self.says(False, is_table, with_outcomes((TOUCH, (0, 0), TOUCH)))

    def test_each_pair_is_looked_at(self):
        for pairs in (((0, 0), (400, 0)), ((0, 0), (0, 2)), ((-1, 0), (0, 0)), ((0, -1), (0, 0)), (TOUCH, (399, 2))):
            self.says(False, is_table, with_outcomes(pairs))

    def test_order_of_pairs(self):
        self.says(True, is_table, with_outcomes(((0, 0), (0, 1), (1, 0))))
        self.says(False, is_table, with_outcomes(((0, 1), (0, 0), (1, 0))))
        self.says(False, is_table, with_outcomes(((0, 0), (1, 0), (0, 1))))
        self.says(False, is_table, with_outcomes(((0, 0), (0, 1), (0, 1))))

    def test_each_row_and_each_command_is_looked_at(self):
        right, wrong = ((0, 0),), ((0, 2),)
        for place in range(4):
            parts = [right] * 4
            parts[place] = wrong
            self.says(False, is_table, (tuple(parts[:2]), tuple(parts[2:])))

    def test_the_largest_table(self):
        outcomes = (TOUCH,) + tuple((world % 400, world) for world in range(400))
        table = ((outcomes,) * 6,) * 400
        self.says(True, is_table, table)
        spoilt = ((outcomes,) * 5 + (((399, 400),),),)
        self.says(False, is_table, table[1:] + spoilt)


class TestIsBelief(AnswerCase):

    def test_right_ones(self):
        for belief in ((0,), (1,), (0, 1)):
            self.says(True, is_belief, SMALL_TABLE, belief)

    def test_wrong_ones(self):
        for belief in ((), (1, 0), (0, 0), (0, 1, 1), (2,), (0, 1, 2), (-1,), (-1, 0), (1000,), (-1000,)):
            self.says(False, is_belief, SMALL_TABLE, belief)

    def test_400_worlds(self):
        table = ((((0, 0),),),) * 400
        self.says(True, is_belief, table, tuple(range(400)))
        self.says(True, is_belief, table, (399,))
        self.says(False, is_belief, table, (400,))


class TestSteps(AnswerCase):

    def test_may_touch(self):
        self.says(False, may_touch, SMALL_TABLE, (0, 1), 0)
        self.says(False, may_touch, SMALL_TABLE, (0,), 1)
        self.says(True, may_touch, SMALL_TABLE, (1,), 1)
        self.says(True, may_touch, SMALL_TABLE, (0, 1), 1)
        self.says(True, may_touch, FORKED, (2,), 0)

    def test_readings_after(self):
        self.answers((0, 1), readings_after, SMALL_TABLE, (0, 1), 0)
        self.answers((0,), readings_after, SMALL_TABLE, (0,), 0)
        self.answers((2, 5), readings_after, FORKED, (0,), 0)

    def test_a_touch_is_no_reading(self):
        self.answers((0,), readings_after, SMALL_TABLE, (1,), 1)
        self.answers((0, 2, 5), readings_after, FORKED, (0, 1, 2), 0)
        self.answers((), readings_after, FORKED, (2,), 0)

    def test_after(self):
        self.answers((0, 1), after, SMALL_TABLE, (0,), 0, 0)
        self.answers((1,), after, SMALL_TABLE, (0, 1), 0, 1)
        self.answers((0, 2), after, FORKED, (0,), 0, 2)

    def test_after_joins_the_worlds_of_all_outcomes(self):
        self.answers((0, 1, 2), after, FORKED, (0, 1), 0, 2)
        self.answers((0, 1), after, SMALL_TABLE, (0, 1), 1, 0)

    def test_after_a_reading_that_may_not_come(self):
        self.answers((), after, SMALL_TABLE, (0,), 0, 1)
        self.answers((), after, SMALL_TABLE, (0, 1), 0, 399)
        self.answers((), after, FORKED, (2,), 0, 0)

    def test_minus_one_is_no_reading(self):
        self.answers((), after, SMALL_TABLE, (1,), 1, -1)
        self.answers((), after, SMALL_TABLE, (0, 1), 0, -1)
        self.answers((), after, FORKED, (0, 1, 2), 0, -1)

    def test_readings_0_and_399(self):
        table = ((((0, 0), (399, 0)),),)
        self.answers((0, 399), readings_after, table, (0,), 0)
        self.answers((0,), after, table, (0,), 0, 399)

    def test_worlds_that_come_twice_are_told_once(self):
        table = (tuple([tuple((1, world) for world in range(400))]),) * 400
        self.answers((1,), readings_after, table, tuple(range(400)), 0)
        self.answers(tuple(range(400)), after, table, tuple(range(400)), 0, 1)


class TestBeliefsAfter(AnswerCase):

    def test_one_for_each_reading(self):
        self.answers(((0, 2), (1,)), beliefs_after, FORKED, (0,), 0)
        self.answers(((0, 1),), beliefs_after, SMALL_TABLE, (0,), 0)
        self.answers(((0, 1), (1,)), beliefs_after, SMALL_TABLE, (0, 1), 0)

    def test_the_touch_pair_is_left_out(self):
        self.answers(((1,), (1,)), beliefs_after, FORKED, (1,), 0)
        self.answers((), beliefs_after, FORKED, (2,), 0)

    def test_they_are_the_beliefs_after_the_readings(self):
        for table in (SMALL_TABLE, FORKED):
            for belief in subsets(range(len(table)))[1:]:
                for command in range(len(table[0])):
                    expected = tuple(
                        after(table, belief, command, reading) for reading in readings_after(table, belief, command))
                    self.answers(expected, beliefs_after, table, belief, command)


class TestIsCommand(AnswerCase):

    def test_all(self):
        for command in (-1, 0, 1, 2, 1000):
            self.says(command in (0, 1), is_command, SMALL_TABLE, command)
            self.says(command == 0, is_command, FORKED, command)


class TestGoals(AnswerCase):

    def test_ended(self):
        goals = ((0, 1), (1, 2))
        self.says(True, ended, goals, (1,))
        self.says(True, ended, goals, (1, 2))
        self.says(False, ended, goals, (0, 2))
        self.says(False, ended, goals, (0, 1, 2))

    def test_without_goals_nothing_is_ended(self):
        self.says(False, ended, (), (0,))

    def test_both_goals(self):
        self.answers(((1,),), both_goals, ((0, 1),), ((1, 2),))
        self.answers(((0, 1), (3,)), both_goals, ((0, 1, 2), (3, 4)), ((0, 1, 3), (1,)))

    def test_both_goals_without_a_common_member(self):
        self.answers((), both_goals, ((0,),), ((1,),))
        self.answers((), both_goals, (), ((1,),))
        self.answers((), both_goals, ((1,),), ())

    def test_only_the_maximal_ones_stay_ascending(self):
        self.answers(((0,), (1, 2)), both_goals, ((1, 2), (0, 2)), ((0, 1), (1, 2)))

    def test_ended_for_both_is_ended_for_both_goals(self):
        beliefs = subsets(range(3))[1:]
        goals = [(), ((0,),), ((0, 1), (1, 2)), ((0, 2), (1,)), ((0, 1, 2),), ((2,), (0, 1))]
        for first in goals:
            for second in goals:
                both = both_goals(first, second)
                self.ascends(both)
                for belief in beliefs:
                    self.says(ended(first, belief) and ended(second, belief), ended, both, belief)


if __name__ == "__main__":
    unittest.main()
