import unittest
from itertools import product

from doubtborne.doors import keeps, settings, sure_doors
from doubtborne.errors import NoCase
from tests.answers import AnswerCase, every_setting, literal_holds, subsets

RULES = [(word, n, literals) for word in ("least", "most") for n in range(4) for literals in subsets((-2, -1, 1, 2))]


def kept(rule, setting):
    """What the document says of a rule."""
    word, n, literals = rule
    many = sum(literal_holds(literal, setting) for literal in literals)
    return many >= n if word == "least" else many <= n


class TestKeeps(AnswerCase):

    def test_least(self):
        self.says(True, keeps, ("least", 1, (1, 2)), (0, 1))
        self.says(True, keeps, ("least", 1, (1, 2)), (1, 1))
        self.says(False, keeps, ("least", 2, (1, 2)), (0, 1))
        self.says(False, keeps, ("least", 1, (1, 2)), (0, 0))

    def test_most(self):
        self.says(True, keeps, ("most", 1, (1, 2)), (0, 1))
        self.says(True, keeps, ("most", 1, (1, 2)), (0, 0))
        self.says(False, keeps, ("most", 1, (1, 2)), (1, 1))
        self.says(False, keeps, ("most", 0, (1, 2)), (0, 1))

    def test_negative_literals(self):
        self.says(True, keeps, ("least", 1, (-2,)), (1, 0))
        self.says(False, keeps, ("least", 1, (-2,)), (1, 1))
        self.says(False, keeps, ("most", 0, (-2,)), (1, 0))

    def test_a_door_and_its_negative(self):
        for setting in every_setting(1):
            self.says(True, keeps, ("least", 1, (1, -1)), setting)
            self.says(False, keeps, ("least", 2, (-1, 1)), setting)
            self.says(True, keeps, ("most", 1, (-1, 1)), setting)
            self.says(False, keeps, ("most", 0, (-1, 1)), setting)

    def test_the_empty_rule(self):
        for setting in every_setting(0) + every_setting(1):
            self.says(True, keeps, ("least", 0, ()), setting)
            self.says(False, keeps, ("least", 1, ()), setting)
            self.says(True, keeps, ("most", 0, ()), setting)

    def test_more_than_there_are_literals(self):
        self.says(False, keeps, ("least", 6, (1,)), (1,))
        self.says(True, keeps, ("most", 6, (1,)), (1,))

    def test_many_rules_by_the_definition(self):
        for rule in RULES:
            for setting in every_setting(2):
                self.says(kept(rule, setting), keeps, rule, setting)


class TestSettings(AnswerCase):

    def test_example(self):
        self.answers(((0, 0), (0, 1), (1, 0)), settings, 2, (("most", 1, (1, 2)),))

    def test_no_doors(self):
        self.answers(((),), settings, 0, ())
        self.answers(((),), settings, 0, (("least", 0, ()),))
        self.answers((), settings, 0, (("least", 1, ()),))

    def test_no_rules_leave_all_settings(self):
        for doors in range(7):
            self.answers(every_setting(doors), settings, doors, ())
            self.ascends(settings(doors, ()))

    def test_all_rules_count(self):
        self.answers(((1, 0),), settings, 2, (("least", 1, (1,)), ("most", 0, (2,))))
        self.answers((), settings, 2, (("least", 1, (1,)), ("most", 0, (1,))))

    def test_six_doors_and_eight_rules(self):
        rules = tuple(("least", 1, (door,)) for door in range(1, 7))
        rules += (("most", 6, (1, 2, 3, 4, 5, 6)), ("most", 0, ()))
        self.answers(((1,) * 6,), settings, 6, rules)

    def test_pairs_of_rules_by_the_definition(self):
        for rules in product(RULES[::3], RULES[::5]):
            expected = tuple(one for one in every_setting(2) if all(kept(rule, one) for rule in rules))
            self.answers(expected, settings, 2, rules)


class TestSureDoors(AnswerCase):

    def test_open_shut_and_neither(self):
        self.answers((1, 0, None), sure_doors, 3, (("least", 1, (1,)), ("most", 0, (2,))))
        self.answers((None, None), sure_doors, 2, (("most", 1, (1, 2)),))

    def test_no_doors(self):
        self.answers((), sure_doors, 0, ())
        self.answers((), sure_doors, 0, (("most", 0, ()),))

    def test_no_case(self):
        self.raises(NoCase, {}, sure_doors, 0, (("least", 1, ()),))
        self.raises(NoCase, {}, sure_doors, 2, (("least", 3, (1, 2)),))
        self.raises(NoCase, {}, sure_doors, 1, (("least", 1, (1,)), ("least", 1, (-1,))))

    def test_six_doors(self):
        self.answers((None,) * 6, sure_doors, 6, ())
        self.answers((0,) * 6, sure_doors, 6, (("most", 0, (1, 2, 3, 4, 5, 6)),))
        self.answers((1,) * 6, sure_doors, 6, (("least", 6, (1, 2, 3, 4, 5, 6)),))

    def test_what_follows_from_several_rules(self):
        rules = (("least", 2, (1, 2, 3)), ("most", 1, (1, 2)), ("most", 0, (2,)))
        self.answers((1, 0, 1), sure_doors, 3, rules)


if __name__ == "__main__":
    unittest.main()
