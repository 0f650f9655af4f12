import unittest

from doubtborne.plans import doors_of
from doubtborne.reached import distances, passage_terms
from tests.answers import (
    AnswerCase, every_setting, literal_holds, literal_tuples, shorter_ones, subsets)

LARGE = ("." * 8,) * 8
SNAKE = ("........", "#######.", "........", ".#######", "........", "#######.", "........", ".#######")


def terms_by_definition(plan, cases, cell, aim):
    """All passage terms, one by one."""
    def tells(term):
        held = [case for case in cases if all(literal_holds(literal, case) for literal in term)]
        return bool(held) and all(distances(plan, case, cell)[aim] is not None for case in held)
    found = [term for term in literal_tuples(doors_of(plan)) if tells(term)]
    return tuple(sorted(term for term in found if not any(tells(some) for some in shorter_ones(term))))


class TestDistances(AnswerCase):

    def test_ordinary(self):
        self.answers((0, 1, 2, 1, None, 3, 2, 3, 4), distances, ("...", ".#.", "..."), (), 0)
        self.answers((0, 1, None, None), distances, ("..#.",), (), 0)

    def test_one_cell(self):
        self.answers((0,), distances, (".",), (), 0)
        for sign in "#*!":
            self.answers((None,), distances, (sign,), (), 0)

    def test_not_free_not_even_itself(self):
        self.answers((None, None), distances, ("#.",), (), 0)
        self.answers((None, None), distances, ("!.",), (), 0)
        self.answers((None, None), distances, ("1.",), (0,), 0)
        self.answers((None, None), distances, ("A.",), (1,), 0)

    def test_glass_and_holes_are_not_crossed(self):
        for sign in "#*!":
            self.answers((0, None, None), distances, ("." + sign + ".",), (), 0)

    def test_all_floor_is_free(self):
        for sign in ".,+abcdefgh":
            self.answers((0, 1, 2), distances, ("." + sign + ".",), (), 0)

    def test_gates_and_lids(self):
        self.answers((0, None, None), distances, (".1.",), (0,), 0)
        self.answers((0, 1, 2), distances, (".1.",), (1,), 0)
        self.answers((0, 1, 2), distances, (".A.",), (0,), 0)
        self.answers((0, None, None), distances, (".A.",), (1,), 0)

    def test_no_slanting_moves(self):
        self.answers((0, None, None, None), distances, (".#", "#."), (), 0)

    def test_lines_do_not_run_on(self):
        self.answers((None, None, 0, None, None, None), distances, ("##.", ".##"), (), 2)
        self.answers((None, 1, 0, None, None, None), distances, ("#..", "###"), (), 2)

    def test_64_cells(self):
        expected = tuple(cell // 8 + cell % 8 for cell in range(64))
        self.answers(expected, distances, LARGE, (), 0)
        found = distances(SNAKE, (), 0)
        self.assertEqual(found[56], 7 * 4 + 2 * 3 + 1)
        self.assertEqual(found[57], None)


class TestPassageTerms(AnswerCase):

    def test_one_gate(self):
        self.answers(((1,),), passage_terms, (".1.",), ((0,), (1,)), 0, 2)

    def test_one_lid(self):
        self.answers(((-1,),), passage_terms, (".A.",), ((0,), (1,)), 0, 2)

    def test_two_gates_in_a_row_and_side_by_side(self):
        self.answers(((1, 2),), passage_terms, (".12.",), every_setting(2), 0, 3)
        self.answers(((1,), (2,)), passage_terms, (".1.", ".2."), every_setting(2), 0, 2)

    def test_always(self):
        self.answers(((),), passage_terms, ("..",), ((),), 0, 1)
        self.answers(((),), passage_terms, (".1", ".."), ((0,), (1,)), 0, 3)
        self.answers(((),), passage_terms, (".1.",), ((1,),), 0, 2)

    def test_never(self):
        self.answers((), passage_terms, (".#.",), ((),), 0, 2)
        self.answers((), passage_terms, (".1.",), ((0,),), 0, 2)

    def test_no_settings(self):
        self.answers((), passage_terms, ("..",), (), 0, 1)
        self.answers((), passage_terms, (".1.",), (), 0, 2)

    def test_a_term_has_to_hold_in_some_setting(self):
        self.answers(((-2,), (1,)), passage_terms, (".1.2",), ((0, 1), (1, 0)), 0, 2)

    def test_from_a_cell_to_itself(self):
        self.answers(((),), passage_terms, (".1",), every_setting(1), 0, 0)
        self.answers(((1,),), passage_terms, (".1",), every_setting(1), 1, 1)
        self.answers((), passage_terms, (".#",), ((),), 1, 1)

    def test_a_door_that_the_plan_does_not_have(self):
        self.answers(((2,),), passage_terms, (".2.",), every_setting(2), 0, 2)

    def test_all_sets_of_settings_of_small_plans(self):
        plans = ((".1.2.",), (".1.", ".A."), (".12", ".B."), (".1.", "2.3"))
        for plan in plans:
            cases = every_setting(doors_of(plan))
            aims = [cell for cell in range(len(plan) * len(plan[0])) if cell > 1]
            for some in subsets(cases)[::1 if len(cases) == 4 else 9]:
                for aim in aims:
                    self.answers(terms_by_definition(plan, some, 0, aim), passage_terms, plan, some, 0, aim)

    def test_six_doors(self):
        self.answers(((1, 2, 3, 4, 5, 6),), passage_terms, (".123456.",), every_setting(6), 0, 7)
        plan = (".1.2.3.", ".4.5.6.")
        found = passage_terms(plan, every_setting(6), 0, 6)
        self.answers(terms_by_definition(plan, every_setting(6), 0, 6), passage_terms, plan, every_setting(6), 0, 6)
        self.ascends(found)
        self.assertEqual(len(found), 8)

    def test_there_is_a_passage_exactly_if_a_term_holds(self):
        plan = (".1.A", "2#B.", "..3.")
        for aim in range(12):
            terms = passage_terms(plan, every_setting(3), 0, aim)
            for setting in every_setting(3):
                told = any(all(literal_holds(literal, setting) for literal in term) for term in terms)
                self.assertEqual(told, distances(plan, setting, 0)[aim] is not None)


if __name__ == "__main__":
    unittest.main()
