import unittest

from doubtborne.errors import IsSafe, NotSafe, TooMany
from doubtborne.safety import find_danger, find_safe, judge_danger, judge_safe, safe
from tests.answers import TOUCH, AnswerCase
from tests.sample_tables import (
    MOST_WEBS, TOO_LARGE_WEBS, VARIED, beliefs_of, cycles_table, ended_by_definition, inside_any,
    is_belief_by_definition, line_table, moves_of, mutations, other_beliefs, safe_by_definition, with_short_cut)

# By the command 0 each world leads to the next one, and the last one, 3, may touch; by the command 1 only 0 may stay.
CLIFF = (
    (((0, 1),), ((0, 0),)), (((0, 2),), (TOUCH,)), (((0, 3),), (TOUCH,)), ((TOUCH,), (TOUCH, (0, 3))))
FALL = (((1,), 3), ((2,), 2), ((3,), 1))
# Two worlds that change places; the second command touches.
TURN = ((((0, 1),), (TOUCH,)), (((0, 0),), (TOUCH, (0, 0))))
ROUND = (((0,), 0), ((1,), 0))


def safe_paper_by_definition(table, goals, start, paper):
    """Whether the safe paper is right: point 42, word for word."""
    known = [belief for belief, _ in paper]
    for belief, command in paper:
        if not is_belief_by_definition(table, belief) or command not in moves_of(table, belief):
            return False
        for other in moves_of(table, belief)[command].values():
            if not ended_by_definition(goals, other) and not inside_any(other, known):
                return False
    return ended_by_definition(goals, start) or inside_any(start, known)


def danger_paper_by_definition(table, goals, start, paper):
    """Whether the danger paper is right: point 42, word for word."""
    for belief, k in paper:
        if not is_belief_by_definition(table, belief) or ended_by_definition(goals, belief) or k < 1:
            return False
        smaller = [other for other, n in paper if n < k]
        for others in moves_of(table, belief).values():
            if not any(set(other) <= set(behind) for behind in others.values() for other in smaller):
                return False
    return any(set(belief) <= set(start) for belief, _ in paper)


class TestSafe(AnswerCase):

    def test_for_ever_without_any_goal(self):
        self.says(True, safe, TURN, (), (0,))
        self.says(True, safe, TURN, (), (0, 1))
        self.says(True, safe, line_table(9), (), (0,))
        self.says(True, safe, CLIFF, (), (0,))

    def test_by_an_ended_belief(self):
        self.says(True, safe, CLIFF, ((3,),), (1,))
        self.says(True, safe, CLIFF, ((2, 3),), (1,))
        self.says(True, safe, CLIFF, ((1, 2),), (1,))
        self.says(True, safe, (((TOUCH,),),), ((0,),), (0,))

    def test_danger(self):
        for start in ((1,), (2,), (3,), (1, 2), (0, 1), (0, 3)):
            self.says(False, safe, CLIFF, (), start)
        self.says(False, safe, CLIFF, ((2,),), (0, 3))
        self.says(False, safe, CLIFF, ((2,),), (3,))
        self.says(False, safe, (((TOUCH, (0, 0)),),), (), (0,))

    def test_each_reading_counts(self):
        table = ((((0, 0), (1, 1)),), ((TOUCH,),))
        self.says(False, safe, table, (), (0,))
        self.says(True, safe, table, ((1,),), (0,))

    def test_by_the_definition(self):
        for table, goals in VARIED:
            found = safe_by_definition(table, goals)
            for start in beliefs_of(table):
                self.says(start in found, safe, table, goals, start)

    def test_the_web_is_needed(self):
        for table, start in MOST_WEBS:
            self.says(True, safe, table, (), start)
        for table, start in TOO_LARGE_WEBS:
            self.raises(TooMany, {"limit": 400}, safe, table, (), start)
            self.raises(TooMany, {"limit": 400}, safe, with_short_cut(table), (), start)


class TestFind(AnswerCase):

    def finds(self, function, judge, definition, table, goals, start):
        """What is found is right, by the judge and word for word; it is the same when asked again."""
        paper = function(table, goals, start)
        self.answers(paper, function, table, goals, start)
        self.says(True, judge, table, goals, start, paper)
        self.assertTrue(definition(table, goals, start, paper))

    def is_safe(self, table, goals, start):
        self.finds(find_safe, judge_safe, safe_paper_by_definition, table, goals, start)
        self.raises(IsSafe, {}, find_danger, table, goals, start)

    def is_danger(self, table, goals, start):
        self.finds(find_danger, judge_danger, danger_paper_by_definition, table, goals, start)
        self.raises(NotSafe, {}, find_safe, table, goals, start)

    def test_ordinary(self):
        self.is_safe(TURN, (), (0,))
        self.is_safe(CLIFF, (), (0,))
        self.is_safe(CLIFF, ((3,),), (1,))
        self.is_safe(CLIFF, ((3,),), (3,))
        self.is_danger(CLIFF, (), (1,))
        self.is_danger(CLIFF, (), (3,))
        self.is_danger(CLIFF, (), (0, 2))

    def test_just_one_is_found(self):
        for table, goals in VARIED:
            found = safe_by_definition(table, goals)
            for start in beliefs_of(table):
                if start in found:
                    self.is_safe(table, goals, start)
                else:
                    self.is_danger(table, goals, start)

    def test_the_web_is_needed(self):
        for table, start in MOST_WEBS:
            self.is_safe(table, (), start)
        long_fall = line_table(400)[:-1] + (((TOUCH,),),)
        self.is_danger(long_fall, (), (0,))
        for table, start in TOO_LARGE_WEBS:
            for function in (find_safe, find_danger):
                self.raises(TooMany, {"limit": 400}, function, table, (), start)
        cycles = cycles_table(16, 25, 1)
        touching = tuple(row + ((TOUCH,),) for row in cycles)
        for function in (find_safe, find_danger):
            self.raises(TooMany, {"limit": 400}, function, touching, (), (15, 41))


class TestJudgeSafe(AnswerCase):

    def judges(self, expected, paper, start=(0,), goals=()):
        self.says(expected, judge_safe, TURN, goals, start, paper)

    def test_right_ones(self):
        self.judges(True, ROUND)
        self.judges(True, (((0, 1), 0),), (0, 1))
        self.judges(True, (((0, 1), 0),), (1,))
        self.judges(True, (), (0,), ((0,),))
        self.judges(True, (((1,), 0),), (1,), ((0,),))

    def test_another_order_and_entries_twice(self):
        self.judges(True, ROUND[::-1])
        self.judges(True, ROUND + ROUND)

    def test_a_needless_right_entry(self):
        self.judges(True, ROUND + (((0, 1), 0),))

    def test_a_needless_wrong_entry(self):
        for entry in (((), 0), ((0, 0), 0), ((1, 0), 0), ((0, 2), 0), ((-1,), 0), ((0,), 1), ((0,), 2), ((0,), -1)):
            self.judges(False, ROUND + (entry,))
            self.judges(False, (entry,) + ROUND)
            self.judges(False, (entry,), (0,), ((0,),))

    def test_the_empty_paper(self):
        self.judges(False, ())
        self.judges(False, (), (0, 1), ((0,),))

    def test_the_belief_behind_is_missing(self):
        self.judges(False, ROUND[:1])
        self.judges(False, ROUND[1:], (1,))

    def test_the_start_is_missing(self):
        self.judges(False, ROUND, (0, 1))
        self.says(False, judge_safe, CLIFF, (), (1,), (((0,), 1),))
        self.says(True, judge_safe, CLIFF, (), (0,), (((0,), 1),))

    def test_a_command_that_may_touch(self):
        self.says(False, judge_safe, TURN, (), (0,), (((0,), 1), ((1,), 0)))
        self.says(False, judge_safe, TURN, (), (1,), (((0,), 0), ((1,), 1)))

    def test_changed_ones_by_the_definition(self):
        for table, goals in VARIED[::2]:
            for start in safe_by_definition(table, goals):
                paper = find_safe(table, goals, start)[-6:]
                for other in mutations(paper, (other_beliefs, lambda command: (-1, 0, 1, 2, command - 3))):
                    expected = safe_paper_by_definition(table, goals, start, other)
                    self.assertIs(judge_safe(table, goals, start, other), expected)


class TestJudgeDanger(AnswerCase):

    def judges(self, expected, paper, start=(1,), goals=()):
        self.says(expected, judge_danger, CLIFF, goals, start, paper)

    def test_right_ones(self):
        self.judges(True, FALL)
        self.judges(True, FALL[2:], (3,))
        self.judges(True, FALL[2:], (0, 3))
        self.judges(True, FALL, (1, 2))
        self.judges(True, (((1,), 300), ((2,), 20), ((3,), 1)))

    def test_another_order_and_entries_twice(self):
        self.judges(True, FALL[::-1])
        self.judges(True, FALL + FALL)

    def test_a_needless_right_entry(self):
        self.judges(True, FALL + (((0, 1), 4),))
        self.judges(True, FALL + (((3,), 9),))
        self.judges(True, FALL + (((1, 3), 1),))

    def test_a_needless_wrong_entry(self):
        for entry in (((), 1), ((0, 0), 1), ((3, 1), 1), ((4,), 1), ((-1,), 1), ((0,), 1), ((0,), 9), ((3,), 0),
                      ((3,), -1), ((2,), 1), ((1,), 2)):
            self.judges(False, FALL + (entry,))
            self.judges(False, (entry,) + FALL)

    def test_the_empty_paper(self):
        self.judges(False, ())

    def test_a_smaller_number_behind(self):
        self.judges(False, FALL[:2])
        self.judges(False, FALL[:1] + FALL[2:])
        self.judges(False, (((1,), 2), ((2,), 2), ((3,), 1)))
        self.judges(False, (((1,), 3), ((2,), 2), ((3,), 2)))
        self.says(False, judge_danger, TURN, (), (0,), (((0,), 2), ((1,), 1)))
        self.says(False, judge_danger, TURN, (), (0,), (((0,), 1), ((1,), 1)))

    def test_an_ended_belief(self):
        self.judges(False, FALL, (1,), ((3,),))
        self.judges(False, FALL, (1,), ((1,),))
        self.judges(True, FALL, (1,), ((0,),))

    def test_no_belief_lies_inside_the_start(self):
        self.judges(False, FALL, (0,))
        self.judges(False, FALL[1:], (1,))
        self.judges(False, FALL + (((0, 1), 4),), (0,))

    def test_each_command_counts(self):
        self.judges(False, FALL + (((0,), 4),), (0,))

    def test_changed_ones_by_the_definition(self):
        for table, goals in VARIED[::2]:
            found = safe_by_definition(table, goals)
            for start in [belief for belief in beliefs_of(table)[::3] if belief not in found]:
                paper = find_danger(table, goals, start)[-6:]
                for other in mutations(paper, (other_beliefs, lambda n: (0, -1, 1, n - 1, n + 1, 400))):
                    expected = danger_paper_by_definition(table, goals, start, other)
                    self.assertIs(judge_danger(table, goals, start, other), expected)


if __name__ == "__main__":
    unittest.main()
