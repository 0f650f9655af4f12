import unittest

from doubtborne.errors import BadTask
from doubtborne.taskparsing import parse_task
from doubtborne.tasktexts import task_text
from tests.answers import AnswerCase
from tests.sample_tasks import tasks_of

DONE, FAIL = ("done",), ("fail",)
A, B, C = ("at", 1), ("at", 2), ("at", 3)
JOINTS = (("either", "or"), ("both", "and"), ("then", "then"))
TREES = [task for nodes in (1, 2, 3, 4) for task in tasks_of(nodes)] + tasks_of(5)[::11]


def without_one_pair(tokens):
    """All that one gets by leaving out one pair of parentheses that belong together."""
    found, begun = [], []
    for at, token in enumerate(tokens):
        if token == "(":
            begun.append(at)
        if token == ")":
            first = begun.pop()
            found.append(tokens[:first] + tokens[first + 1:at] + tokens[at + 1:])
    return found


def parsed(text):
    """The tree, or None."""
    try:
        return parse_task(text)
    except BadTask:
        return None


class TestTaskText(AnswerCase):

    def test_the_document(self):
        task = ("both", ("either", ("at", 1), ("at", 2)), ("within", 5, ("at", 3)))
        self.answers("( at a or at b ) and within 5 at c", task_text, task)

    def test_units(self):
        self.answers("done", task_text, DONE)
        self.answers("fail", task_text, FAIL)
        for number, letter in enumerate("abcdefgh"):
            self.answers("at " + letter, task_text, ("at", number + 1))
            self.answers("without " + letter + " fail", task_text, ("without", number + 1, FAIL))
        for number in (0, 9, 10, 60):
            self.answers("within {} done".format(number), task_text, ("within", number, DONE))

    def test_units_in_units(self):
        task = ("without", 1, ("within", 2, ("without", 3, B)))
        self.answers("without a within 2 without c at b", task_text, task)

    def test_bounds_of_joints(self):
        for name, word in JOINTS:
            self.answers("within 3 ( at a " + word + " at b )", task_text, ("within", 3, (name, A, B)))
            self.answers("without c ( at a " + word + " at b )", task_text, ("without", 3, (name, A, B)))

    def test_joints_of_bounds(self):
        for name, word in JOINTS:
            task = (name, ("within", 3, A), ("without", 2, C))
            self.answers("within 3 at a " + word + " without b at c", task_text, task)

    def test_one_joint_on_the_left_and_on_the_right(self):
        for name, word in JOINTS:
            self.answers("at a {0} at b {0} at c".format(word), task_text, (name, (name, A, B), C))
            self.answers("at a {0} ( at b {0} at c )".format(word), task_text, (name, A, (name, B, C)))

    def test_tighter_joints_in_looser_ones(self):
        for outer in range(3):
            for inner in range(outer + 1, 3):
                (name, word), (part, tight) = JOINTS[outer], JOINTS[inner]
                self.answers(
                    "at a {1} at b {0} at c".format(word, tight), task_text, (name, (part, A, B), C))
                self.answers(
                    "at a {0} at b {1} at c".format(word, tight), task_text, (name, A, (part, B, C)))

    def test_looser_joints_in_tighter_ones(self):
        for outer in range(3):
            for inner in range(outer):
                (name, word), (part, loose) = JOINTS[outer], JOINTS[inner]
                self.answers(
                    "( at a {1} at b ) {0} at c".format(word, loose), task_text, (name, (part, A, B), C))
                self.answers(
                    "at a {0} ( at b {1} at c )".format(word, loose), task_text, (name, A, (part, B, C)))

    def test_parentheses_in_parentheses(self):
        task = ("then", ("both", ("either", A, B), C), ("then", A, ("either", B, C)))
        self.answers(
            "( ( at a or at b ) and at c ) then ( at a then ( at b or at c ) )", task_text, task)

    def test_parsing_gives_the_tree_back(self):
        for task in TREES:
            self.assertEqual(parse_task(task_text(task)), task)

    def test_tokens_are_separated_by_one_blank_each(self):
        for task in TREES[::5]:
            text = task_text(task)
            self.assertEqual(text, " ".join(text.replace("(", " ( ").replace(")", " ) ").split()))

    def test_no_pair_of_parentheses_can_be_left_out(self):
        for task in TREES:
            for tokens in without_one_pair(task_text(task).split()):
                self.assertNotEqual(parsed(" ".join(tokens)), task)

    def test_long_ones(self):
        left = right = DONE
        for _ in range(25):
            left, right = ("then", left, A), ("then", A, right)
        self.answers("done" + " then at a" * 25, task_text, left)
        self.answers("at a then ( " * 24 + "at a then done" + " )" * 24, task_text, right)


if __name__ == "__main__":
    unittest.main()
