import re
import unittest
from itertools import product

from doubtborne.errors import BadTask
from doubtborne.taskparsing import parse_task
from tests.answers import AnswerCase

DONE, FAIL = ("done",), ("fail",)
A, B, C, D = ("at", 1), ("at", 2), ("at", 3), ("at", 4)
TEXTS = (
    "done", "fail", "at h", "without a done", "within 60 at b", "( at a )", "at a or at b and at c then fail",
    "( at a or at b ) and within 5 at c", "without a within 0 without h ( done then ( ( fail ) ) )")
# One token of each sort, and bad ones.
WORDS = ("done", "at", "without", "within", "a", "h", "0", "60", "(", ")", "or", "and", "then")
BAD_WORDS = ("i", "A", "61", "05", "x", "ata", "Done", ";", "-1", "at1", "doneand")


def first_bad_token(tokens):
    """The number of the first bad token, by what may follow what; None if the tokens are a task."""
    # What is looked for: a unit, a mark, or a number; or what stands behind a unit. The next one is the last one.
    awaited, depth = ["unit"], 0
    for at, token in enumerate(tokens):
        wanted = awaited.pop() if awaited else "joint"
        if wanted == "mark":
            right = token in list("abcdefgh")
        elif wanted == "number":
            right = token in [str(number) for number in range(61)]
        elif wanted == "unit":
            right = token in ("done", "fail", "at", "without", "within", "(")
            awaited += {"at": ["mark"], "without": ["unit", "mark"], "within": ["unit", "number"],
                        "(": ["unit"]}.get(token, [])
            depth += token == "("
        else:
            right = token in ("or", "and", "then") or (token == ")" and depth > 0)
            depth -= token == ")"
            awaited += [] if token == ")" else ["unit"]
        if not right:
            return at
    return len(tokens) if awaited or depth else None


class TestForms(AnswerCase):

    def test_units(self):
        self.answers(DONE, parse_task, "done")
        self.answers(FAIL, parse_task, "fail")
        for number, letter in enumerate("abcdefgh"):
            self.answers(("at", number + 1), parse_task, "at " + letter)
            self.answers(("without", number + 1, DONE), parse_task, "without " + letter + " done")
        self.answers(("within", 7, A), parse_task, "within 7 at a")
        self.answers(A, parse_task, "( at a )")
        self.answers(A, parse_task, "( ( ( at a ) ) )")

    def test_units_in_units(self):
        self.answers(("without", 1, ("within", 2, ("without", 3, B))), parse_task, "without a within 2 without c at b")
        self.answers(("within", 1, ("either", A, B)), parse_task, "within 1 ( at a or at b )")

    def test_a_bound_takes_one_unit_alone(self):
        self.answers(("then", ("without", 1, B), C), parse_task, "without a at b then at c")
        self.answers(("both", ("within", 1, B), C), parse_task, "within 1 at b and at c")
        self.answers(("either", C, ("within", 1, B)), parse_task, "at c or within 1 at b")

    def test_joints(self):
        self.answers(("either", A, B), parse_task, "at a or at b")
        self.answers(("both", A, B), parse_task, "at a and at b")
        self.answers(("then", A, B), parse_task, "at a then at b")

    def test_joints_associate_to_the_left(self):
        for word, name in (("or", "either"), ("and", "both"), ("then", "then")):
            text = "at a {0} at b {0} at c {0} at d".format(word)
            self.answers((name, (name, (name, A, B), C), D), parse_task, text)

    def test_parentheses_on_the_right(self):
        for word, name in (("or", "either"), ("and", "both"), ("then", "then")):
            text = "at a {0} ( at b {0} ( at c {0} at d ) )".format(word)
            self.answers((name, A, (name, B, (name, C, D))), parse_task, text)

    def test_then_binds_tightest_and_or_loosest(self):
        self.answers(("either", A, ("both", B, ("then", C, D))), parse_task, "at a or at b and at c then at d")
        self.answers(("either", ("both", ("then", A, B), C), D), parse_task, "at a then at b and at c or at d")
        self.answers(("both", ("then", A, B), ("then", C, D)), parse_task, "at a then at b and at c then at d")
        self.answers(("either", ("both", A, B), ("both", C, D)), parse_task, "at a and at b or at c and at d")

    def test_parentheses_change_it(self):
        self.answers(("then", ("either", A, B), C), parse_task, "( at a or at b ) then at c")
        self.answers(("then", A, ("both", B, C)), parse_task, "at a then ( at b and at c )")

    def test_numbers(self):
        self.answers(("within", 0, DONE), parse_task, "within 0 done")
        self.answers(("within", 60, DONE), parse_task, "within 60 done")
        self.answers(("within", 10, DONE), parse_task, "within 10 done")
        for number in range(61):
            self.answers(("within", number, DONE), parse_task, "within {} done".format(number))


class TestTokens(AnswerCase):

    def test_blanks_of_every_number(self):
        for many in range(1, 6):
            self.answers(("then", A, B), parse_task, (" " * many).join(["at", "a", "then", "at", "b"]))

    def test_no_blanks_beside_parentheses(self):
        self.answers(("then", A, ("without", 1, B)), parse_task, "(at a)then(without a(at b))")
        self.answers(("both", DONE, FAIL), parse_task, "((done)and(fail))")

    def test_blanks_at_both_ends(self):
        self.answers(DONE, parse_task, "   done")
        self.answers(DONE, parse_task, "done     ")
        self.answers(("either", A, B), parse_task, "  at a or at b  ")

    def test_letters_and_digits_in_one_run(self):
        self.raises(BadTask, {"at": 0}, parse_task, "ata")
        self.raises(BadTask, {"at": 0}, parse_task, "donedone")
        self.raises(BadTask, {"at": 0}, parse_task, "within5 done")
        self.raises(BadTask, {"at": 1}, parse_task, "at a1")
        self.raises(BadTask, {"at": 1}, parse_task, "within 5done")
        self.raises(BadTask, {"at": 1}, parse_task, "at bor at c")
        self.raises(BadTask, {"at": 1}, parse_task, "without a2 done")

    def test_each_other_character_is_a_token(self):
        for sign in "!\"#$&'*+,-./:;<=>?@[\\]^_`{|}~":
            self.raises(BadTask, {"at": 0}, parse_task, sign)
            self.raises(BadTask, {"at": 2}, parse_task, "at a" + sign + "or at b")
            self.raises(BadTask, {"at": 3}, parse_task, "done or(" + sign + sign)
        self.raises(BadTask, {"at": 2}, parse_task, "((;")

    def test_capital_letters(self):
        self.raises(BadTask, {"at": 0}, parse_task, "Done")
        self.raises(BadTask, {"at": 0}, parse_task, "AT a")
        self.raises(BadTask, {"at": 1}, parse_task, "at A")


class TestBadTask(AnswerCase):

    def test_the_document(self):
        self.raises(BadTask, {"at": 4}, parse_task, "at a then at")

    def test_no_token(self):
        self.raises(BadTask, {"at": 0}, parse_task, "")
        self.raises(BadTask, {"at": 0}, parse_task, " ")
        self.raises(BadTask, {"at": 0}, parse_task, " " * 50)

    def test_numbers(self):
        for word in ("61", "05", "00", "060", "100", "6" * 5000, "0" * 5000, "x", "5x", "done", "(", "a"):
            self.raises(BadTask, {"at": 1}, parse_task, "within " + word + " done")
        self.raises(BadTask, {"at": 1}, parse_task, "within -1 done")
        self.raises(BadTask, {"at": 2}, parse_task, "within 6 1 done")

    def test_marks(self):
        for word in ("i", "z", "H", "1", "ab", "done", "at", "("):
            self.raises(BadTask, {"at": 1}, parse_task, "at " + word)
            self.raises(BadTask, {"at": 1}, parse_task, "without " + word + " done")

    def test_parentheses(self):
        self.raises(BadTask, {"at": 0}, parse_task, ")")
        self.raises(BadTask, {"at": 1}, parse_task, "()")
        self.raises(BadTask, {"at": 1}, parse_task, "done)")
        self.raises(BadTask, {"at": 3}, parse_task, "(done))")
        self.raises(BadTask, {"at": 3}, parse_task, "((done")
        self.raises(BadTask, {"at": 4}, parse_task, "((done)")
        self.raises(BadTask, {"at": 2}, parse_task, "(done at a)")
        self.raises(BadTask, {"at": 1}, parse_task, "done (done)")

    def test_cut_short_at_each_place(self):
        for text in TEXTS:
            tokens = text.split()
            for many in range(len(tokens)):
                self.assertIs(type(parse_task(text)), tuple)
                self.agrees(tokens[:many])

    def test_a_bad_token_in_each_place(self):
        for text in TEXTS:
            tokens = text.split()
            for at, word in product(range(len(tokens)), BAD_WORDS):
                self.raises(BadTask, {"at": at}, parse_task, " ".join(tokens[:at] + [word] + tokens[at + 1:]))

    def test_another_token_in_each_place(self):
        for text in TEXTS:
            tokens = text.split()
            for at, word in product(range(len(tokens)), WORDS):
                self.agrees(tokens[:at] + [word] + tokens[at + 1:])

    def test_a_token_too_many(self):
        for text in TEXTS:
            tokens = text.split()
            for word in ("done", "at", "a", "5", "(", ")", "x"):
                self.raises(BadTask, {"at": len(tokens)}, parse_task, text + " " + word)
            for at, word in product(range(len(tokens) + 1), WORDS):
                self.agrees(tokens[:at] + [word] + tokens[at:])

    def test_all_short_texts(self):
        for size in range(5):
            for tokens in product(("done", "at", "within", "a", "7", "(", ")", "then"), repeat=size):
                self.agrees(tokens)

    def agrees(self, tokens):
        """The text of these tokens is parsed, or its first bad token is told, as it is due."""
        due = first_bad_token(re.findall("[a-zA-Z0-9]+|[^ ]", " ".join(tokens)))
        try:
            self.assertIs(type(parse_task(" ".join(tokens))), tuple)
            self.assertIsNone(due, tokens)
        except BadTask as bad:
            self.assertEqual(bad.at, due, tokens)


class TestLongTexts(AnswerCase):

    def test_200_tokens(self):
        tree = DONE
        for _ in range(99):
            tree = ("then", tree, DONE)
        self.answers(tree, parse_task, " then ".join(["done"] * 100))
        self.raises(BadTask, {"at": 199}, parse_task, " then ".join(["done"] * 100) + " done")

    def test_30_parentheses_open_at_one_place(self):
        self.answers(A, parse_task, "(" * 30 + "at a" + ")" * 30)
        self.raises(BadTask, {"at": 61}, parse_task, "(" * 30 + "at a" + ")" * 29)
        self.raises(BadTask, {"at": 62}, parse_task, "(" * 30 + "at a" + ")" * 31)

    def test_30_bounds_behind_each_other(self):
        tree = A
        for _ in range(15):
            tree = ("without", 2, ("within", 3, tree))
        self.answers(tree, parse_task, "without b within 3 " * 15 + "at a")
        self.raises(BadTask, {"at": 60}, parse_task, "without b within 3 " * 15)

    def test_bounds_within_parentheses(self):
        text = "(without a within 1 without b" * 28 + " done" + ")" * 28
        self.assertEqual(len(re.findall("[a-z0-9]+|[()]", text)), 225)
        tree = DONE
        for _ in range(28):
            tree = ("without", 1, ("within", 1, ("without", 2, tree)))
        self.answers(tree, parse_task, text)


if __name__ == "__main__":
    unittest.main()
