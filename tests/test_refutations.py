import unittest

from doubtborne.errors import IsBorne, NotBorne, TooMany
from doubtborne.policies import find_policy, judge_policy
from doubtborne.refutations import find_refutation, judge_refutation
from tests.answers import SMALL_TABLE, TOUCH, AnswerCase
from tests.sample_tables import (
    MOST_WEBS, TOO_LARGE_WEBS, VARIED, beliefs_of, ended_by_definition, is_belief_by_definition, line_table, moves_of,
    mutations, other_beliefs, steps_by_definition, with_short_cut)

GOAL = ((1,),)
LINE = line_table(4)
END = ((3,),)
RIGHT = (((0,), 2), ((1,), 1), ((2,), 0))
# Two worlds that change places, and a third one to which they never come.
TURN = ((((0, 1),), ((1, 1),)), (((0, 0),), ((1, 0),)), (((0, 2),), ((0, 2),)))
NEVER = (((0,), None), ((1,), None))


def right_by_definition(table, goals, start, m, refutation):
    """Whether the refutation is right: point 41, word for word."""
    for belief, k in refutation:
        if not is_belief_by_definition(table, belief) or ended_by_definition(goals, belief):
            return False
        if k is not None and k < 0:
            return False
        for others in moves_of(table, belief).values() if k != 0 else ():
            enough = [other for other, n in refutation if n is None or (k is not None and n >= k - 1)]
            if not any(set(other) <= set(behind) for behind in others.values() for other in enough):
                return False
    return any(
        set(belief) <= set(start) and (k is None or (m is not None and k >= m)) for belief, k in refutation)


class TestFindRefutation(AnswerCase):

    def finds(self, table, goals, start, m):
        """What is found is right; it is the same when asked again."""
        refutation = find_refutation(table, goals, start, m)
        self.answers(refutation, find_refutation, table, goals, start, m)
        self.says(True, judge_refutation, table, goals, start, m, refutation)
        self.assertTrue(right_by_definition(table, goals, start, m, refutation))

    def test_ordinary(self):
        for m in range(3):
            self.finds(LINE, END, (0,), m)
        self.finds(SMALL_TABLE, GOAL, (0,), 0)
        for m in (0, 1, 2, 400, None):
            self.finds(SMALL_TABLE, GOAL, (0, 1), m)
            self.finds(TURN, ((2,),), (0,), m)

    def test_is_borne(self):
        for m in (3, 4, 400, None):
            self.raises(IsBorne, {}, find_refutation, LINE, END, (0,), m)
        for m in (0, 1, 400, None):
            self.raises(IsBorne, {}, find_refutation, SMALL_TABLE, GOAL, (1,), m)

    def test_all(self):
        for table, goals in VARIED:
            steps = steps_by_definition(table, goals)
            for start in beliefs_of(table):
                for m in (0, 1, 2, 3, 400, None):
                    if start in steps and (m is None or steps[start] <= m):
                        self.raises(IsBorne, {}, find_refutation, table, goals, start, m)
                    else:
                        self.finds(table, goals, start, m)

    def test_the_web_is_needed(self):
        for m in (398, 0):
            self.finds(line_table(400), ((399,),), (0,), m)
        self.finds(line_table(400), (), (0,), 400)
        self.raises(IsBorne, {}, find_refutation, line_table(400), ((399,),), (0,), 399)
        self.finds(MOST_WEBS[1][0], (), (0, 16), None)
        for table, start in TOO_LARGE_WEBS:
            for m in (0, 400, None):
                self.raises(TooMany, {"limit": 400}, find_refutation, table, (), start, m)

    def test_too_many_comes_ahead_of_is_borne(self):
        for table, start in TOO_LARGE_WEBS:
            table = with_short_cut(table)
            for m in (0, 1, None):
                self.raises(TooMany, {"limit": 400}, find_refutation, table, ((len(table) - 1,),), start, m)


class TestJudgeRefutation(AnswerCase):

    def judges(self, expected, refutation, m=2, start=(0,)):
        self.says(expected, judge_refutation, LINE, END, start, m, refutation)

    def turns(self, expected, refutation, m=None, start=(0,)):
        self.says(expected, judge_refutation, TURN, ((2,),), start, m, refutation)

    def test_right_ones(self):
        self.judges(True, RIGHT)
        self.judges(True, (((0,), 0),), 0)
        self.turns(True, NEVER)
        self.says(True, judge_refutation, (((TOUCH,),),), (), (0,), None, (((0,), None),))
        self.says(True, judge_refutation, (((TOUCH,),),), (), (0,), 400, (((0,), 400),))

    def test_m(self):
        for m in range(5):
            self.judges(m <= 2, RIGHT, m)
        self.judges(False, RIGHT, None)
        self.judges(False, RIGHT, 400)
        for m in (0, 1, 400, None):
            self.turns(True, NEVER, m)

    def test_the_empty_refutation(self):
        for m in (0, 1, None):
            self.judges(False, (), m)
            self.turns(False, (), m)

    def test_another_order_and_entries_twice(self):
        self.judges(True, RIGHT[::-1])
        self.judges(True, RIGHT + RIGHT)
        self.turns(True, NEVER[::-1] + NEVER)

    def test_a_needless_right_entry(self):
        self.judges(True, RIGHT + (((0, 1), 0),))
        self.judges(True, (((0,), 1),) + RIGHT)
        self.turns(True, NEVER + (((0, 2), 5),))
        self.turns(True, NEVER + (((0, 1), None),))

    def test_a_needless_wrong_entry(self):
        for entry in (((3,), 0), ((), 0), ((1, 0), 0), ((1, 1), 0), ((0,), -1), ((0,), 3), ((2,), 1), ((1,), None)):
            self.judges(False, RIGHT + (entry,))
            self.judges(False, (entry,) + RIGHT)

    def test_for_ever(self):
        self.turns(False, (((0,), None), ((1,), 400)))
        self.turns(False, (((0,), None),))
        self.turns(False, (((0,), 400), ((1,), None)))
        self.turns(True, (((0,), 400), ((1,), 399)) + NEVER, 400)
        self.turns(False, (((0,), 400), ((1,), None), ((0,), 398)), 400)

    def test_a_chain_of_numbers(self):
        chain = tuple(((at % 2,), at) for at in range(8))
        for m in range(9):
            self.turns(m <= 7, chain, m, (1,))
            self.turns(m <= 6, chain, m, (0,))
        self.turns(False, chain, None, (1,))
        # A greater number behind will do as well, but for the greatest one there is none.
        for at in range(7):
            self.turns(at < 6, chain[:at] + chain[at + 1:], 7, (1,))

    def test_beliefs(self):
        for belief in ((), (0, 0), (-1,), (4,), (1000,), (-1, 0), (0, 4)):
            self.judges(False, RIGHT + ((belief, 0),))
            self.judges(False, RIGHT + ((belief, None),))

    def test_an_ended_belief(self):
        self.judges(False, (((3,), 0),), 0, (3,))
        self.judges(False, RIGHT + (((3,), None),))
        self.says(False, judge_refutation, LINE, ((2, 3),), (2, 3), 0, (((2,), 0),))
        self.says(True, judge_refutation, LINE, ((2, 3),), (1, 2), 0, (((1, 2), 0),))

    def test_a_belief_inside_the_start(self):
        self.judges(True, RIGHT, 2, (0, 1))
        self.judges(True, RIGHT, 1, (1, 3))
        self.judges(False, RIGHT, 2, (1, 3))
        self.judges(False, RIGHT, 0, (3,))

    def test_a_belief_inside_the_one_behind(self):
        table = ((((0, 1), (0, 2)),), (((0, 1),),), (((0, 2),),))
        self.says(True, judge_refutation, table, ((2,),), (0,), None, (((0,), None), ((1,), None)))
        self.says(False, judge_refutation, table, ((2,),), (0,), None, (((0,), None), ((0, 1), None)))

    def test_each_command_counts(self):
        table = ((((0, 0),), ((0, 1),)), (((0, 1),), ((0, 1),)))
        self.says(False, judge_refutation, table, ((1,),), (0,), None, (((0,), None),))
        self.says(False, judge_refutation, table, ((1,),), (0,), 1, (((0,), 1),))
        self.says(True, judge_refutation, table, ((1,),), (0,), 0, (((0,), 0),))

    def test_changed_ones_by_the_definition(self):
        def numbers(n):
            return (0, -1, 1, 2, None, 400) + (() if n is None else (n + 1, n - 1))
        for table, goals in VARIED[::2]:
            steps = steps_by_definition(table, goals)
            for start in beliefs_of(table)[::4]:
                m = None if start not in steps else steps[start] - 1
                if m != -1:
                    refutation = find_refutation(table, goals, start, m)[-6:]
                    for asked in (m, 1 if m is None else m + 1, None):
                        for other in mutations(refutation, (other_beliefs, numbers)):
                            expected = right_by_definition(table, goals, start, asked, other)
                            self.assertIs(judge_refutation(table, goals, start, asked, other), expected)


class TestOneOfBoth(AnswerCase):

    def test_just_one_is_found(self):
        for table, goals in VARIED:
            for start in beliefs_of(table):
                for m in (0, 1, 2, 3, 400):
                    self.one_of_both(table, goals, start, m, m)
                self.one_of_both(table, goals, start, 400, None)

    def one_of_both(self, table, goals, start, m, asked):
        """There is a right policy within m steps, or else a right refutation for what is asked."""
        told = self.has_refutation(table, goals, start, asked)
        self.assertNotEqual(self.has_policy(table, goals, start, m), told)

    def has_policy(self, table, goals, start, m):
        """Whether a right policy within m steps is found."""
        try:
            return judge_policy(table, goals, start, m, find_policy(table, goals, start))
        except NotBorne:
            return False

    def has_refutation(self, table, goals, start, m):
        """Whether a right refutation for m is found."""
        try:
            return judge_refutation(table, goals, start, m, find_refutation(table, goals, start, m))
        except IsBorne:
            return False


if __name__ == "__main__":
    unittest.main()
