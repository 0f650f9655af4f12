import unittest
from itertools import product

from doubtborne.errors import NotAlike, TooMany
from doubtborne.residuals import find_alike, judge_alike, parted, residuals
from tests.answers import AnswerCase
from tests.sample_tasks import (
    DONE, FAIL, residuals_by_definition, rest_by_definition, status_by_definition, tasks_of)

A, B, C = ("at", 1), ("at", 2), ("at", 3)
SMALL = [task for nodes in (1, 2, 3) for task in tasks_of(nodes)]
SOME = SMALL[::3] + tasks_of(4)[::101]
ALL_MARKS = tuple(range(9))
LIMIT = {"limit": 400}


def counted(n, k):
    """A task with many residuals."""
    return ("within", n, ("then", A, ("within", k, ("then", B, A))))


# Tasks with 400 residuals, and with 401, for the marks 0 and 1.
MOST, TOO_MANY = counted(28, 20), counted(27, 24)


def status_behind(task, marks):
    """The status of the rest behind some marks."""
    for mark in marks:
        task = rest_by_definition(task, mark)
    return status_by_definition(task)


def pairs_by_definition(first, second, marks):
    """All pairs that can be reached from pairs with one status, as a set."""
    found = {(first, second)}
    waiting = [(first, second)]
    while waiting:
        t, u = waiting.pop()
        if status_by_definition(t) == status_by_definition(u):
            for mark in marks:
                pair = (rest_by_definition(t, mark), rest_by_definition(u, mark))
                if pair not in found:
                    found.add(pair)
                    waiting.append(pair)
    return found


def parted_by_definition(first, second, marks, most):
    """The first shortest tuple of at most so many marks behind which the statuses differ, or None."""
    for size in range(most + 1):
        for told in product(marks, repeat=size):
            if status_behind(first, told) != status_behind(second, told):
                return told
    return None


class TestResiduals(AnswerCase):

    def test_ordinary(self):
        self.answers((B, DONE, ("then", A, B)), residuals, ("then", A, B), (0, 1, 2))
        self.answers((A, B, ("both", A, B), DONE), residuals, ("both", A, B), (1, 2))

    def test_a_task_that_is_its_own_only_residual(self):
        self.answers((DONE,), residuals, DONE, ALL_MARKS)
        self.answers((FAIL,), residuals, FAIL, ALL_MARKS)
        self.answers((A,), residuals, A, (0,))
        self.answers((A,), residuals, A, (0, 2, 3, 4, 5, 6, 7, 8))
        self.answers((("without", 2, A),), residuals, ("without", 2, A), (0,))

    def test_one_mark(self):
        self.answers((A, DONE), residuals, A, (1,))
        self.answers((FAIL, ("within", 0, A), ("within", 1, A), ("within", 2, A)), residuals, ("within", 2, A), (0,))
        self.answers((DONE, ("within", 2, A)), residuals, ("within", 2, A), (1,))

    def test_all_nine_marks(self):
        self.answers((A, DONE), residuals, A, ALL_MARKS)
        task = ("either", ("without", 8, A), ("within", 1, ("at", 8)))
        self.answers(tuple(sorted(residuals_by_definition(task, ALL_MARKS))), residuals, task, ALL_MARKS)

    def test_the_task_itself_is_one_also_where_it_is_no_rest(self):
        self.answers((DONE, ("then", DONE, A)), residuals, ("then", DONE, A), (1,))

    def test_by_the_definition(self):
        for marks in ((0,), (1,), (0, 2), (1, 2), (0, 1, 2)):
            for task in SOME:
                expected = tuple(sorted(residuals_by_definition(task, marks)))
                self.answers(expected, residuals, task, marks)
                self.ascends(expected)

    def test_exactly_400_and_more(self):
        self.assertEqual(len(residuals_by_definition(MOST, (0, 1))), 400)
        self.assertEqual(len(residuals_by_definition(TOO_MANY, (0, 1))), 401)
        self.answers(tuple(sorted(residuals_by_definition(MOST, (0, 1)))), residuals, MOST, (0, 1))
        self.raises(TooMany, LIMIT, residuals, TOO_MANY, (0, 1))
        self.raises(TooMany, LIMIT, residuals, counted(60, 60), (0, 1, 2))


class TestParted(AnswerCase):

    def test_alike(self):
        self.answers(None, parted, A, A, (0, 1))
        self.answers(None, parted, ("both", A, B), ("both", B, A), (0, 1, 2))
        self.answers(None, parted, A, B, (0, 3))

    def test_the_empty_tuple(self):
        self.answers((), parted, DONE, FAIL, (0,))
        self.answers((), parted, DONE, ("then", DONE, DONE), (0,))
        self.answers((), parted, A, FAIL, (0,))

    def test_a_longer_one(self):
        self.answers((1,), parted, A, B, (0, 1, 2))
        self.answers((0, 0, 0), parted, ("within", 2, A), A, (0, 1))
        self.answers((1, 2, 1), parted, ("then", A, ("then", B, A)), ("then", A, ("then", B, C)), (0, 1, 2, 3))
        self.answers((0,) * 61, parted, ("within", 60, A), A, (0, 1))

    def test_the_first_one_of_several_shortest_ones(self):
        self.answers((1,), parted, ("either", A, B), C, (0, 1, 2))
        self.answers((2,), parted, ("either", C, B), A, (0, 2, 3))
        self.answers((1, 2), parted, ("both", A, B), C, (0, 1, 2))
        self.answers((2, 1), parted, ("then", B, ("either", A, C)), ("at", 4), (0, 1, 2, 3))

    def test_only_the_marks_handed_in_count(self):
        self.answers((3,), parted, A, ("either", A, C), (0, 1, 3))
        self.answers(None, parted, A, ("either", A, C), (0, 1))

    def test_by_the_definition(self):
        for marks in ((0,), (1, 2), (0, 1, 2)):
            for first, second in product(SOME[::2], SOME[1::3]):
                expected = parted_by_definition(first, second, marks, 5)
                self.assertEqual(parted(first, second, marks), expected, (first, second, marks))

    def test_exactly_400_pairs_and_more(self):
        for task, many in ((MOST, 400), (TOO_MANY, 401)):
            for other in (("both", task, DONE), ("either", task, ("at", 5))):
                self.assertEqual(len(pairs_by_definition(task, other, (0, 1))), many)
        self.answers(None, parted, MOST, ("both", MOST, DONE), (0, 1))
        self.answers((1,) + (0,) * 20, parted, MOST, ("either", MOST, ("at", 5)), (0, 1))
        self.raises(TooMany, LIMIT, parted, TOO_MANY, ("both", TOO_MANY, DONE), (0, 1))

    def test_pairs_of_two_statuses_count_and_are_not_left(self):
        other = ("either", MOST, ("at", 5))
        pairs = pairs_by_definition(MOST, other, (0, 1))
        self.assertIn((FAIL, ("at", 5)), pairs)
        self.answers((), parted, DONE, TOO_MANY, (0, 1))
        self.answers((), parted, TOO_MANY, FAIL, (0, 1))

    def test_too_many_also_where_the_answer_is_near(self):
        task = counted(20, 14)
        self.assertEqual(len(pairs_by_definition(task, ("either", task, ("at", 5)), (0, 1, 5))), 401)
        self.assertEqual(status_behind(("either", task, ("at", 5)), (5,)), "done")
        self.raises(TooMany, LIMIT, parted, task, ("either", task, ("at", 5)), (0, 1, 5))


class TestFindAlike(AnswerCase):

    def finds(self, first, second, marks):
        """The paper that is found is right, and the same when asked again."""
        paper = find_alike(first, second, marks)
        self.answers(paper, find_alike, first, second, marks)
        self.says(True, judge_alike, first, second, marks, paper)
        return paper

    def test_ordinary(self):
        self.assertEqual(set(self.finds(A, B, (0,))), {(A, B)})
        self.assertEqual(set(self.finds(A, A, (0, 1))), {(A, A), (DONE, DONE)})
        self.finds(("both", A, B), ("both", B, A), (0, 1, 2))

    def test_not_alike(self):
        self.raises(NotAlike, {}, find_alike, DONE, FAIL, (0,))
        self.raises(NotAlike, {}, find_alike, A, B, (0, 1))
        self.raises(NotAlike, {}, find_alike, ("within", 60, A), A, (0, 1))

    def test_by_the_definition(self):
        for marks in ((0,), (1, 2), (0, 1, 2)):
            for first, second in product(SOME[::3], SOME[1::4]):
                if parted_by_definition(first, second, marks, 5) is None:
                    self.finds(first, second, marks)
                else:
                    self.raises(NotAlike, {}, find_alike, first, second, marks)

    def test_exactly_400_pairs(self):
        paper = self.finds(MOST, ("both", MOST, DONE), (0, 1))
        self.assertEqual(len(set(paper)), 400)
        self.raises(NotAlike, {}, find_alike, MOST, ("either", MOST, ("at", 5)), (0, 1))

    def test_too_many_comes_ahead_of_not_alike(self):
        self.raises(TooMany, LIMIT, find_alike, TOO_MANY, ("both", TOO_MANY, DONE), (0, 1))
        self.raises(TooMany, LIMIT, find_alike, TOO_MANY, ("either", TOO_MANY, ("at", 5)), (0, 1))
        task = counted(20, 14)
        self.raises(TooMany, LIMIT, find_alike, task, ("either", task, ("at", 5)), (0, 1, 5))


class TestJudgeAlike(AnswerCase):

    FIRST, SECOND = ("both", A, B), ("both", B, A)
    PAPER = ((("both", A, B), ("both", B, A)), (A, A), (B, B), (DONE, DONE))

    def judges(self, expected, paper, marks=(0, 1, 2)):
        self.says(expected, judge_alike, self.FIRST, self.SECOND, marks, paper)

    def test_right_ones(self):
        self.judges(True, self.PAPER)
        self.judges(True, self.PAPER[:1], (0, 3))
        self.says(True, judge_alike, DONE, DONE, ALL_MARKS, ((DONE, DONE),))

    def test_another_order(self):
        self.judges(True, self.PAPER[::-1])
        self.judges(True, self.PAPER[2:] + self.PAPER[:2])

    def test_an_entry_twice(self):
        for entry in self.PAPER:
            self.judges(True, self.PAPER + (entry,))
            self.judges(True, (entry,) + self.PAPER)

    def test_a_needless_right_entry(self):
        self.judges(True, self.PAPER + ((FAIL, FAIL),))
        self.judges(True, ((C, C),) + self.PAPER)
        self.judges(True, self.PAPER + ((A, A),), (0, 1))

    def test_a_needless_wrong_entry(self):
        self.judges(False, self.PAPER + ((DONE, FAIL),))
        self.judges(False, self.PAPER + ((A, C),))
        self.judges(False, ((("within", 0, A), A),) + self.PAPER)

    def test_the_pair_is_missing(self):
        self.judges(False, self.PAPER[1:])
        self.judges(False, ((self.SECOND, self.FIRST),) + self.PAPER[1:])
        self.says(False, judge_alike, A, B, (0,), ((A, A), (B, B), (B, A)))

    def test_the_pair_of_a_rest_is_missing(self):
        for number in range(1, 4):
            self.judges(False, self.PAPER[:number] + self.PAPER[number + 1:])

    def test_a_pair_of_two_statuses(self):
        self.says(False, judge_alike, DONE, FAIL, (0,), ((DONE, FAIL),))
        self.says(False, judge_alike, A, B, (1,), ((A, B), (DONE, B), (DONE, DONE)))
        self.says(False, judge_alike, A, ("within", 0, A), (0,), ((A, ("within", 0, A)), (A, FAIL)))
        self.says(False, judge_alike, DONE, ("then", DONE, DONE), (0,), ((DONE, ("then", DONE, DONE)), (DONE, DONE)))

    def test_the_empty_paper(self):
        self.judges(False, ())
        self.says(False, judge_alike, DONE, DONE, (0,), ())

    def test_what_is_found_without_one_entry_is_right_only_if_it_is_needless(self):
        for first, second in product(SOME[::5], repeat=2):
            if parted_by_definition(first, second, (0, 1), 5) is None:
                paper = find_alike(first, second, (0, 1))
                for number in range(len(paper)):
                    some = paper[:number] + paper[number + 1:]
                    expected = pairs_by_definition(first, second, (0, 1)) <= set(some)
                    self.assertEqual(judge_alike(first, second, (0, 1), some), expected)


if __name__ == "__main__":
    unittest.main()
