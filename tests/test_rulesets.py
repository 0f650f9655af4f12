import unittest
from itertools import combinations, product

from doubtborne.doors import keeps
from doubtborne.rulesets import least_clash, least_rules
from tests.answers import AnswerCase, every_setting, literal_holds

OPEN_1 = ("least", 1, (1,))
SHUT_1 = ("most", 0, (1,))
ONE_OF_TWO = ("least", 1, (1, 2))
SHUT_2 = ("most", 0, (2,))
EMPTY = ("most", 0, ())
BROKEN = ("least", 1, ())
SOME = (OPEN_1, SHUT_1, ONE_OF_TWO, SHUT_2, EMPTY, ("least", 2, (1, 2)), ("most", 1, (-1, 2)))


def first_smallest(rules, fits):
    """The first smallest set of rules that fits, or None."""
    for size in range(len(rules) + 1):
        for numbers in combinations(range(len(rules)), size):
            if fits([rules[number] for number in numbers]):
                return numbers
    return None


def cases_of(doors, rules):
    """The settings that keep all of these rules."""
    return [setting for setting in every_setting(doors) if all(keeps(rule, setting) for rule in rules)]


class TestLeastRules(AnswerCase):

    def test_one_rule_is_enough(self):
        self.answers((1,), least_rules, 2, (ONE_OF_TWO, OPEN_1, SHUT_2), 1)

    def test_two_rules_are_needed(self):
        self.answers((0, 2), least_rules, 2, (ONE_OF_TWO, EMPTY, SHUT_2), 1)

    def test_the_first_one_of_the_smallest(self):
        self.answers((0,), least_rules, 1, (OPEN_1, OPEN_1), 1)
        self.answers((1,), least_rules, 2, (ONE_OF_TWO, OPEN_1, SHUT_2, OPEN_1), 1)
        self.answers((0, 1), least_rules, 2, (SHUT_2, ONE_OF_TWO, SHUT_2, ONE_OF_TWO), 1)

    def test_it_does_not_follow(self):
        self.answers(None, least_rules, 2, (), 1)
        self.answers(None, least_rules, 2, (ONE_OF_TWO,), 1)
        self.answers(None, least_rules, 2, (OPEN_1, SHUT_2), 2)

    def test_negative_literals(self):
        self.answers((1,), least_rules, 2, (ONE_OF_TWO, SHUT_2), -2)
        self.answers(None, least_rules, 2, (ONE_OF_TWO, SHUT_2), -1)

    def test_every_literal_follows_from_a_clash(self):
        for literal in (-2, -1, 1, 2):
            self.answers((0,), least_rules, 2, (BROKEN,), literal)
        self.answers((0, 1), least_rules, 2, (OPEN_1, SHUT_1), 2)
        self.answers((0,), least_rules, 2, (OPEN_1, SHUT_1), 1)
        self.answers((1,), least_rules, 2, (OPEN_1, SHUT_1), -1)

    def test_six_doors_and_eight_rules(self):
        chain = tuple(("least", 1, (-door, door + 1)) for door in range(1, 6))
        rules = chain + (OPEN_1, EMPTY, ("most", 6, (1, 2, 3, 4, 5, 6)))
        self.answers((0, 1, 2, 3, 4, 5), least_rules, 6, rules, 6)
        self.answers(None, least_rules, 6, rules, -6)

    def test_threes_of_rules_by_the_definition(self):
        for rules in product(SOME, repeat=3):
            for literal in (-2, -1, 1, 2):
                expected = first_smallest(rules, lambda some: all(
                    literal_holds(literal, setting) for setting in cases_of(2, some)))
                self.answers(expected, least_rules, 2, rules, literal)


class TestLeastClash(AnswerCase):

    def test_two_rules_clash(self):
        self.answers((0, 2), least_clash, 2, (OPEN_1, ONE_OF_TWO, SHUT_1))

    def test_one_rule_is_enough(self):
        self.answers((2,), least_clash, 1, (OPEN_1, SHUT_1, BROKEN))
        self.answers((0,), least_clash, 0, (BROKEN,))

    def test_three_rules_are_needed(self):
        self.answers((0, 1, 3), least_clash, 2, (ONE_OF_TWO, SHUT_1, EMPTY, SHUT_2))

    def test_the_first_one_of_the_smallest(self):
        self.answers((0, 1), least_clash, 1, (OPEN_1, SHUT_1, OPEN_1, SHUT_1))

    def test_some_setting_keeps_all(self):
        self.answers(None, least_clash, 0, ())
        self.answers(None, least_clash, 0, (EMPTY,))
        self.answers(None, least_clash, 2, (ONE_OF_TWO, SHUT_2))
        self.answers(None, least_clash, 6, ())

    def test_six_doors_and_eight_rules(self):
        rules = tuple(("least", 1, (door,)) for door in range(1, 7)) + (EMPTY, ("most", 5, (1, 2, 3, 4, 5, 6)))
        self.answers((0, 1, 2, 3, 4, 5, 7), least_clash, 6, rules)

    def test_threes_of_rules_by_the_definition(self):
        for rules in product(SOME, repeat=3):
            self.answers(first_smallest(rules, lambda some: not cases_of(2, some)), least_clash, 2, rules)


if __name__ == "__main__":
    unittest.main()
