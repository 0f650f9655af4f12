import unittest

from doubtborne.errors import NotBorne, TooMany
from doubtborne.policies import command_of, find_policy, judge_policy
from tests.answers import SMALL_TABLE, TOUCH, AnswerCase
from tests.sample_tables import (
    MOST_WEBS, TOO_LARGE_WEBS, VARIED, beliefs_of, ended_by_definition, inside_any, is_belief_by_definition, line_table,
    moves_of, mutations, other_beliefs, steps_by_definition, with_short_cut)

GOAL = ((1,),)
LINE = line_table(4)
END = ((3,),)
RIGHT = (((0,), 3, 0), ((1,), 2, 0), ((2,), 1, 0))
# From each of the two worlds another command leads to the last one, and the other one may touch.
FORKED = ((((0, 2),), (TOUCH,)), ((TOUCH,), ((1, 2),)), (((2, 2),), ((2, 2),)))


def right_by_definition(table, goals, start, m, policy):
    """Whether the policy is right: point 40, word for word."""
    for belief, n, command in policy:
        if not is_belief_by_definition(table, belief) or n < 1 or command not in range(len(table[0])):
            return False
        if command not in moves_of(table, belief):
            return False
        smaller = [other for other, k, _ in policy if k < n]
        for other in moves_of(table, belief)[command].values():
            if not ended_by_definition(goals, other) and not inside_any(other, smaller):
                return False
    return ended_by_definition(goals, start) or inside_any(start, [other for other, n, _ in policy if n <= m])


class TestFindPolicy(AnswerCase):

    def finds(self, table, goals, start, steps):
        """What is found is right within the steps, and not within one less; it is the same when asked again."""
        policy = find_policy(table, goals, start)
        self.answers(policy, find_policy, table, goals, start)
        self.says(True, judge_policy, table, goals, start, steps, policy)
        self.assertTrue(right_by_definition(table, goals, start, steps, policy))
        if steps > 0:
            self.says(False, judge_policy, table, goals, start, steps - 1, policy)
        return policy

    def test_an_ended_start(self):
        self.finds(SMALL_TABLE, GOAL, (1,), 0)
        self.says(True, judge_policy, SMALL_TABLE, GOAL, (1,), 0, ())

    def test_ordinary(self):
        self.finds(SMALL_TABLE, GOAL, (0,), 1)
        self.finds(LINE, END, (0,), 3)
        self.finds(FORKED, ((2,),), (1,), 1)

    def test_not_borne(self):
        self.raises(NotBorne, {}, find_policy, SMALL_TABLE, GOAL, (0, 1))
        self.raises(NotBorne, {}, find_policy, FORKED, ((2,),), (0, 1))
        self.raises(NotBorne, {}, find_policy, LINE, (), (0,))
        self.raises(NotBorne, {}, find_policy, (((TOUCH,),),), (), (0,))

    def test_all(self):
        for table, goals in VARIED:
            steps = steps_by_definition(table, goals)
            for start in beliefs_of(table):
                if start in steps:
                    self.finds(table, goals, start, steps[start])
                else:
                    self.raises(NotBorne, {}, find_policy, table, goals, start)

    def test_the_web_is_needed(self):
        self.finds(line_table(400), ((399,),), (0,), 399)
        self.finds(MOST_WEBS[1][0], ((15, 40),), (0, 16), 399)
        for table, start in TOO_LARGE_WEBS:
            self.raises(TooMany, {"limit": 400}, find_policy, table, (), start)
            table = with_short_cut(table)
            self.raises(TooMany, {"limit": 400}, find_policy, table, ((len(table) - 1,),), start)

    def test_whoever_follows_it_comes_to_a_goal(self):
        for table, goals in VARIED:
            for start, steps in steps_by_definition(table, goals).items():
                policy = find_policy(table, goals, start)
                present = {start}
                for _ in range(steps):
                    waiting = [belief for belief in present if not ended_by_definition(goals, belief)]
                    present = {
                        other for belief in waiting
                        for other in moves_of(table, belief)[command_of(policy, belief)].values()}
                self.assertTrue(all(ended_by_definition(goals, belief) for belief in present))


class TestJudgePolicy(AnswerCase):

    def judges(self, expected, policy, m=3, start=(0,)):
        self.says(expected, judge_policy, LINE, END, start, m, policy)

    def test_right_ones(self):
        self.judges(True, RIGHT)
        self.judges(True, RIGHT, 400)
        self.judges(True, RIGHT, 2, (1,))
        self.judges(True, (), 0, (3,))
        self.judges(True, RIGHT, 0, (3,))

    def test_m(self):
        for m in range(6):
            self.judges(m >= 3, RIGHT, m)
        self.judges(False, RIGHT, 0)
        self.judges(False, (), 400)

    def test_another_order(self):
        self.judges(True, RIGHT[::-1])
        self.judges(True, RIGHT[1:] + RIGHT[:1])

    def test_an_entry_twice(self):
        for entry in RIGHT:
            self.judges(True, RIGHT + (entry,))

    def test_a_needless_right_entry(self):
        self.judges(True, RIGHT + (((0,), 7, 0),))
        self.judges(True, (((3,), 1, 0),) + RIGHT)
        self.judges(True, RIGHT + (((1,), 5, 0),))

    def test_a_needless_wrong_entry(self):
        for entry in (((0,), 0, 0), ((0,), 1, 0), ((), 3, 0), ((1, 0), 9, 0), ((0, 0), 9, 0), ((2,), 1, 1)):
            self.judges(False, RIGHT + (entry,))
            self.judges(False, (entry,) + RIGHT)

    def test_numbers(self):
        for n in (0, -1, -1000):
            self.judges(False, RIGHT[:2] + (((2,), n, 0),))
            self.judges(False, RIGHT[1:] + (((3,), n, 0),), 3, (2,))
        self.judges(True, (((0,), 1000, 0), ((1,), 999, 0), ((2,), 998, 0)), 1000)

    def test_no_smaller_number_behind(self):
        self.judges(False, (((0,), 3, 0), ((1,), 3, 0), ((2,), 1, 0)))
        self.judges(False, (((0,), 3, 0), ((1,), 4, 0), ((2,), 1, 0)), 4)
        self.judges(False, (((0,), 3, 0), ((2,), 1, 0)))
        self.judges(False, RIGHT[:2])

    def test_beliefs(self):
        for belief in ((), (0, 0), (-1,), (4,), (1000,), (-1, 0), (0, 4)):
            self.judges(False, ((belief, 3, 0),) + RIGHT[1:])
            self.judges(False, RIGHT + ((belief, 4, 0),))
        self.says(False, judge_policy, LINE, ((0, 1, 2, 3),), (0,), 0, (((1, 0), 1, 0),))

    def test_a_larger_belief(self):
        self.judges(True, (((0, 1), 3, 0),) + RIGHT[1:])
        self.judges(True, (((0, 1, 2), 3, 0), ((1, 2), 2, 0), ((2,), 1, 0)))
        self.judges(False, (((0, 1, 2), 3, 0), ((2,), 1, 0)))

    def test_commands(self):
        for command in (-1, 1, 2, 1000, -1000):
            self.judges(False, (((0,), 3, command),) + RIGHT[1:])
        self.says(True, judge_policy, FORKED, ((2,),), (0,), 1, (((0,), 1, 0),))
        for command in (1, -1, -2, 2):
            self.says(False, judge_policy, FORKED, ((2,),), (0,), 1, (((0,), 1, command),))
        self.says(False, judge_policy, FORKED, ((2,),), (0,), 1, (((0, 1), 1, 0),))

    def test_a_start_inside_the_belief_of_an_entry(self):
        self.judges(True, (((0, 1), 3, 0), ((1, 2), 2, 0), ((2,), 1, 0)), 3, (0, 1))
        self.judges(True, (((0, 1), 3, 0), ((1, 2), 2, 0), ((2,), 1, 0)), 3, (1,))
        self.judges(False, (((0, 1), 3, 0), ((1, 2), 2, 0), ((2,), 1, 0)), 3, (0, 2))

    def test_an_ended_start_does_not_save_a_wrong_entry(self):
        self.judges(False, (((0,), 0, 0),), 0, (3,))

    def test_changed_ones_by_the_definition(self):
        spots = (other_beliefs, lambda n: (0, n - 1, n + 1, -1, 400), lambda command: (-1, 0, 1, 2, command - 3))
        for table, goals in VARIED[::2]:
            steps = steps_by_definition(table, goals)
            for start in [belief for belief in steps if steps[belief] > 0]:
                policy = find_policy(table, goals, start)
                for m in (0, steps[start], steps[start] + 1, 400):
                    for other in mutations(policy, spots):
                        expected = right_by_definition(table, goals, start, m, other)
                        self.assertIs(judge_policy(table, goals, start, m, other), expected)


class TestCommandOf(AnswerCase):

    def test_the_empty_policy(self):
        self.answers(None, command_of, (), (0,))

    def test_none_that_fits(self):
        self.answers(None, command_of, RIGHT, (3,))
        self.answers(None, command_of, RIGHT, (0, 1))

    def test_the_belief_itself_and_one_around_it(self):
        policy = (((0, 1), 2, 4), ((2,), 1, 3))
        for belief in ((0,), (1,), (0, 1)):
            self.answers(4, command_of, policy, belief)
        self.answers(3, command_of, policy, (2,))

    def test_the_least_number(self):
        policy = (((0, 1), 3, 5), ((0,), 1, 2), ((0, 2), 2, 4))
        self.answers(2, command_of, policy, (0,))
        self.answers(5, command_of, policy, (1,))
        self.answers(4, command_of, policy, (2,))

    def test_the_first_one_of_several_with_the_least_number(self):
        policy = (((0, 1), 2, 3), ((0,), 1, 4), ((0, 2), 1, 1), ((0,), 1, 0))
        self.answers(4, command_of, policy, (0,))
        self.answers(0, command_of, policy[::-1], (0,))
        self.answers(1, command_of, policy[::-1], (2,))
        self.answers(3, command_of, policy, (1,))


if __name__ == "__main__":
    unittest.main()
