import unittest

from doubtborne.clauses import kept_by, prime_clauses
from tests.answers import (
    AnswerCase, every_setting, literal_holds, literal_tuples, shorter_ones, subsets)


def clause_holds(clause, setting):
    """What the document says of a clause."""
    return any(literal_holds(literal, setting) for literal in clause)


def primes_by_definition(doors, cases):
    """All prime clauses, one by one."""
    def everywhere(clause):
        return all(clause_holds(clause, case) for case in cases)
    found = [clause for clause in literal_tuples(doors) if everywhere(clause)]
    return tuple(sorted(clause for clause in found if not any(everywhere(some) for some in shorter_ones(clause))))


class TestPrimeClauses(AnswerCase):

    def test_example(self):
        self.answers(((-1, -2), (1, 2)), prime_clauses, 2, ((0, 1), (1, 0)))

    def test_no_settings(self):
        for doors in range(7):
            self.answers(((),), prime_clauses, doors, ())

    def test_all_settings(self):
        for doors in range(7):
            self.answers((), prime_clauses, doors, every_setting(doors))

    def test_one_setting(self):
        self.answers(((-2,), (1,)), prime_clauses, 2, ((1, 0),))
        self.answers(((-6,), (-4,), (-2,), (1,), (3,), (5,)), prime_clauses, 6, ((1, 0, 1, 0, 1, 0),))

    def test_literals_stand_in_the_order_of_their_doors(self):
        self.answers(((-1, 2), (1, -2)), prime_clauses, 2, ((0, 0), (1, 1)))

    def test_clauses_that_are_not_needed_but_prime(self):
        cases = tuple(one for one in every_setting(3) if (one[0] or one[1]) and (one[2] or not one[0]))
        self.answers(((-1, 3), (1, 2), (2, 3)), prime_clauses, 3, cases)

    def test_all_sets_of_settings_of_three_doors(self):
        for doors in range(4):
            for cases in subsets(every_setting(doors)):
                self.answers(primes_by_definition(doors, cases), prime_clauses, doors, cases)

    def test_six_doors(self):
        odd = tuple(one for one in every_setting(6) if sum(one) % 2 == 1)
        found = prime_clauses(6, odd)
        self.assertEqual(len(found), 32)
        self.ascends(found)
        self.answers(odd, kept_by, 6, found)


class TestKeptBy(AnswerCase):

    def test_ordinary(self):
        self.answers(((0, 1), (1, 0)), kept_by, 2, ((-1, -2), (1, 2)))
        self.answers(((1, 0),), kept_by, 2, ((-2,), (1, 2)))

    def test_no_clauses(self):
        for doors in range(7):
            self.answers(every_setting(doors), kept_by, doors, ())

    def test_the_empty_clause(self):
        self.answers((), kept_by, 0, ((),))
        self.answers((), kept_by, 2, ((), (1,)))

    def test_clauses_that_clash(self):
        self.answers((), kept_by, 1, ((-1,), (1,)))

    def test_by_the_definition(self):
        clauses = literal_tuples(2)
        for some in subsets(clauses):
            expected = tuple(one for one in every_setting(2) if all(clause_holds(clause, one) for clause in some))
            self.answers(expected, kept_by, 2, some)

    def test_prime_clauses_say_exactly_what_is_known(self):
        for doors in range(4):
            for cases in subsets(every_setting(doors)):
                self.answers(cases, kept_by, doors, prime_clauses(doors, cases))


if __name__ == "__main__":
    unittest.main()
