import unittest
from itertools import product

from doubtborne.tasks import outcome, rest, status
from tests.answers import AnswerCase
from tests.sample_tasks import DONE, FAIL, outcome_by_definition, rest_by_definition, status_by_definition, tasks_of

A, B, C = ("at", 1), ("at", 2), ("at", 3)
GOING = ("going",)
SMALL = [task for nodes in (1, 2, 3) for task in tasks_of(nodes)]
# A task of twelve nodes, one of which is contained in five others.
LARGE = ("both", ("then", A, ("without", 3, ("within", 5, ("either", B, ("at", 4))))), ("without", 4, ("then", B, A)))


class TestOutcome(AnswerCase):

    def test_done_and_fail(self):
        for marks in ((0,), (1, 2), (0,) * 100):
            self.answers(("done", 0), outcome, DONE, marks)
            self.answers(("fail", 0), outcome, FAIL, marks)

    def test_at(self):
        self.answers(("done", 0), outcome, A, (1,))
        self.answers(("done", 2), outcome, A, (0, 2, 1, 1))
        self.answers(GOING, outcome, A, (0, 2, 3))
        self.answers(("done", 1), outcome, ("at", 8), (7, 8))

    def test_then(self):
        self.answers(("done", 3), outcome, ("then", A, B), (2, 1, 0, 2))
        self.answers(GOING, outcome, ("then", A, B), (2, 1, 0, 1))
        self.answers(GOING, outcome, ("then", A, B), (2, 2, 2))
        self.answers(("fail", 2), outcome, ("then", A, FAIL), (0, 0, 1))
        self.answers(("done", 1), outcome, ("then", DONE, A), (0, 1))

    def test_then_whose_first_part_fails(self):
        self.answers(("fail", 1), outcome, ("then", ("within", 1, A), B), (2, 2, 1, 2))
        self.answers(("fail", 0), outcome, ("then", FAIL, DONE), (1,))
        self.answers(("fail", 2), outcome, ("then", ("without", 3, A), DONE), (0, 0, 3, 1))

    def test_then_begins_its_second_part_at_the_moment_of_the_first_one(self):
        self.answers(("done", 1), outcome, ("then", A, A), (0, 1, 0))
        self.answers(("done", 1), outcome, ("then", A, DONE), (0, 1))
        self.answers(("fail", 1), outcome, ("then", A, ("within", 0, B)), (0, 1, 2))
        self.answers(("done", 2), outcome, ("then", A, ("within", 1, B)), (0, 1, 2))
        self.answers(("fail", 1), outcome, ("then", A, ("without", 1, B)), (0, 1, 2))

    def test_both_at_different_moments(self):
        self.answers(("done", 2), outcome, ("both", A, B), (1, 0, 2, 1))
        self.answers(("done", 2), outcome, ("both", B, A), (1, 0, 2, 1))
        self.answers(("fail", 1), outcome, ("both", A, ("within", 1, B)), (1, 0, 2))
        self.answers(("fail", 0), outcome, ("both", ("within", 2, A), ("within", 0, B)), (0, 0, 0))
        self.answers(("fail", 0), outcome, ("both", ("within", 0, A), ("within", 2, B)), (0, 0, 0))
        self.answers(GOING, outcome, ("both", A, B), (1, 1, 1))
        self.answers(GOING, outcome, ("both", A, B), (2, 0))

    def test_both_at_one_moment(self):
        self.answers(("done", 1), outcome, ("both", A, A), (0, 1))
        self.answers(("fail", 1), outcome, ("both", ("within", 1, A), ("without", 2, A)), (0, 2))
        self.answers(("fail", 1), outcome, ("both", A, ("within", 1, B)), (0, 1))
        self.answers(("fail", 1), outcome, ("both", ("within", 1, B), A), (0, 1))

    def test_both_that_fails_when_one_part_is_done_long_since(self):
        self.answers(("fail", 2), outcome, ("both", A, ("without", 3, B)), (1, 0, 3, 2))

    def test_either_at_different_moments(self):
        self.answers(("done", 0), outcome, ("either", A, B), (1, 2))
        self.answers(("done", 0), outcome, ("either", B, A), (1, 2))
        self.answers(("done", 2), outcome, ("either", ("within", 0, A), B), (0, 0, 2))
        self.answers(("fail", 2), outcome, ("either", ("within", 0, A), ("within", 2, B)), (0, 0, 0, 2))
        self.answers(("fail", 2), outcome, ("either", ("within", 2, A), ("within", 0, B)), (0, 0, 0, 1))
        self.answers(GOING, outcome, ("either", A, B), (0, 3))
        self.answers(GOING, outcome, ("either", FAIL, B), (0, 3))

    def test_either_at_one_moment(self):
        self.answers(("done", 1), outcome, ("either", A, A), (0, 1))
        self.answers(("fail", 1), outcome, ("either", ("within", 1, A), ("without", 2, A)), (0, 2))
        self.answers(("done", 1), outcome, ("either", A, ("within", 1, B)), (0, 1))
        self.answers(("done", 1), outcome, ("either", ("within", 1, B), A), (0, 1))

    def test_without_its_mark_ahead_of_the_moment_of_its_part(self):
        self.answers(("fail", 1), outcome, ("without", 2, A), (0, 2, 1))
        self.answers(("fail", 0), outcome, ("without", 2, ("within", 1, A)), (2, 0))

    def test_without_its_mark_at_the_moment_of_its_part(self):
        self.answers(("done", 1), outcome, ("without", 1, A), (0, 1))
        self.answers(("done", 0), outcome, ("without", 1, DONE), (1,))
        self.answers(("fail", 1), outcome, ("without", 2, ("within", 1, A)), (0, 2))

    def test_without_its_mark_behind_the_moment_of_its_part(self):
        self.answers(("done", 1), outcome, ("without", 2, A), (0, 1, 2))
        self.answers(("fail", 0), outcome, ("without", 2, ("within", 0, A)), (0, 2))

    def test_without_its_mark(self):
        self.answers(("done", 2), outcome, ("without", 2, A), (0, 3, 1))
        self.answers(GOING, outcome, ("without", 2, A), (0, 3, 0))

    def test_without_begun_later(self):
        self.answers(("done", 3), outcome, ("then", A, ("without", 3, B)), (3, 1, 0, 2))
        self.answers(("fail", 2), outcome, ("then", A, ("without", 3, B)), (0, 1, 3, 2))

    def test_within_0(self):
        self.answers(("done", 0), outcome, ("within", 0, A), (1,))
        self.answers(("fail", 0), outcome, ("within", 0, A), (0, 1))
        self.answers(("fail", 0), outcome, ("within", 0, FAIL), (0,))

    def test_within_its_last_moment_and_one_too_late(self):
        self.answers(("done", 3), outcome, ("within", 3, A), (0, 0, 0, 1))
        self.answers(("fail", 3), outcome, ("within", 3, A), (0, 0, 0, 0, 1))
        self.answers(("fail", 2), outcome, ("within", 3, ("without", 2, A)), (0, 0, 2, 1))
        self.answers(("done", 60), outcome, ("within", 60, A), (0,) * 60 + (1,))
        self.answers(("fail", 60), outcome, ("within", 60, A), (0,) * 61 + (1,))

    def test_within_that_the_marks_do_not_reach(self):
        self.answers(GOING, outcome, ("within", 3, A), (0, 0, 0))
        self.answers(("fail", 3), outcome, ("within", 3, A), (0, 0, 0, 0))

    def test_within_begun_later(self):
        self.answers(("done", 4), outcome, ("then", A, ("within", 2, B)), (0, 0, 1, 0, 2))
        self.answers(("fail", 4), outcome, ("then", A, ("within", 2, B)), (0, 0, 1, 0, 0, 2))

    def test_one_moment(self):
        for task, mark in product(SMALL, (0, 1, 2)):
            self.answers(outcome_by_definition(task, (mark,)), outcome, task, (mark,))

    def test_100_moments(self):
        marks = (0, 3) * 49 + (1, 2)
        self.answers(("done", 99), outcome, ("then", A, B), marks)
        self.answers(("done", 99), outcome, ("both", A, B), marks)
        self.answers(GOING, outcome, ("at", 4), marks)
        self.answers(("fail", 60), outcome, ("within", 60, B), marks)

    def test_by_the_definition(self):
        for marks in product((0, 1, 2), repeat=4):
            for task in SMALL:
                self.assertEqual(outcome(task, marks), outcome_by_definition(task, marks), (task, marks))

    def test_larger_ones_by_the_definition(self):
        tasks = tasks_of(5)[::997] + [LARGE]
        for marks in product((0, 1, 2, 3), repeat=5):
            for task in tasks:
                self.assertEqual(outcome(task, marks), outcome_by_definition(task, marks), (task, marks))

    def test_taking_the_rest_moment_by_moment_tells_it(self):
        for marks in product((0, 1, 2), repeat=3):
            for task in SMALL:
                self.assertEqual(outcome(task, marks), self.told_by_rests(task, marks))

    def told_by_rests(self, task, marks):
        """The first moment behind which the rest is done or fail; it stays so."""
        words = []
        for mark in marks:
            task = rest(task, mark)
            words.append(status(task))
        for moment, word in enumerate(words):
            if word != "going":
                self.assertEqual(set(words[moment:]), {word})
                return (word, moment)
        return GOING


class TestRest(AnswerCase):

    def test_the_document(self):
        self.answers(("at", 2), rest, ("then", ("at", 1), ("at", 2)), 1)

    def test_done_fail_and_at(self):
        for mark in range(9):
            self.answers(DONE, rest, DONE, mark)
            self.answers(FAIL, rest, FAIL, mark)
            self.answers(DONE if mark == 3 else C, rest, C, mark)

    def test_then(self):
        self.answers(DONE, rest, ("then", A, A), 1)
        self.answers(FAIL, rest, ("then", A, FAIL), 1)
        self.answers(FAIL, rest, ("then", FAIL, A), 1)
        self.answers(("then", A, B), rest, ("then", A, B), 2)
        self.answers(("then", B, A), rest, ("then", ("then", A, B), A), 1)

    def test_both(self):
        self.answers(FAIL, rest, ("both", A, FAIL), 1)
        self.answers(FAIL, rest, ("both", FAIL, A), 0)
        self.answers(B, rest, ("both", A, B), 1)
        self.answers(A, rest, ("both", A, B), 2)
        self.answers(DONE, rest, ("both", A, A), 1)
        self.answers(("both", A, B), rest, ("both", A, B), 0)
        self.answers(("both", A, ("within", 1, B)), rest, ("both", A, ("within", 2, B)), 0)

    def test_either(self):
        self.answers(DONE, rest, ("either", A, FAIL), 1)
        self.answers(DONE, rest, ("either", FAIL, A), 1)
        self.answers(DONE, rest, ("either", A, B), 2)
        self.answers(B, rest, ("either", FAIL, B), 1)
        self.answers(A, rest, ("either", A, ("within", 0, B)), 0)
        self.answers(FAIL, rest, ("either", FAIL, FAIL), 0)
        self.answers(("either", A, ("within", 1, B)), rest, ("either", A, ("within", 2, B)), 0)

    def test_without(self):
        self.answers(DONE, rest, ("without", 1, A), 1)
        self.answers(FAIL, rest, ("without", 1, FAIL), 0)
        self.answers(FAIL, rest, ("without", 2, A), 2)
        self.answers(("without", 2, A), rest, ("without", 2, A), 0)
        self.answers(("without", 3, B), rest, ("without", 3, ("then", A, B)), 1)

    def test_within(self):
        self.answers(DONE, rest, ("within", 0, A), 1)
        self.answers(FAIL, rest, ("within", 5, FAIL), 1)
        self.answers(FAIL, rest, ("within", 0, A), 0)
        self.answers(("within", 0, A), rest, ("within", 1, A), 0)
        self.answers(("within", 59, B), rest, ("within", 60, ("then", A, B)), 1)

    def test_by_the_definition(self):
        for task in [LARGE] + SMALL + tasks_of(4)[::7]:
            for mark in range(5):
                self.assertEqual(rest(task, mark), rest_by_definition(task, mark))

    def test_what_is_done_or_fails_stays_so(self):
        for task in (DONE, FAIL):
            for mark in range(9):
                self.answers(task, rest, task, mark)


class TestStatus(AnswerCase):

    def test_the_three_words(self):
        self.answers("done", status, DONE)
        self.answers("fail", status, FAIL)
        self.answers("going", status, A)

    def test_whatever_it_contains(self):
        for task in (("then", DONE, DONE), ("both", FAIL, A), ("either", DONE, A), ("without", 1, DONE),
                     ("within", 0, FAIL), ("either", FAIL, FAIL)):
            self.answers("going", status, task)

    def test_all(self):
        for task in SMALL:
            self.answers(status_by_definition(task), status, task)


if __name__ == "__main__":
    unittest.main()
