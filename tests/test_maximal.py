import unittest

from doubtborne.errors import TooLarge
from doubtborne.maximal import borne_table, safe_table, unborne_table, whole_policy
from doubtborne.policies import judge_policy
from doubtborne.safety import safe
from doubtborne.sets import inside
from doubtborne.webs import steps_of
from tests.answers import SMALL_TABLE, TOUCH, AnswerCase
from tests.sample_tables import (
    VARIED, beliefs_of, inside_any, line_table, made_table, safe_by_definition, steps_by_definition)

GOAL = ((1,),)
STAYS = ((((0, 0),),),)
THREE_STAY = ((((0, 0),),), (((0, 1),),), (((0, 2),),))
TEN = [(made_table(7, 10, 2, 3), ((0, 1), (2, 3, 4))), (made_table(8, 10, 3, 2), ((5,), (0, 6, 9)))]
FUNCTIONS = (borne_table, unborne_table, safe_table, whole_policy)


def maximal_by_definition(sets):
    """Those that lie inside no other one."""
    return tuple(sorted(one for one in sets if not any(set(one) < set(other) for other in sets)))


def minimal_by_definition(sets):
    """Those inside which no other one lies."""
    return tuple(sorted(one for one in sets if not any(set(other) < set(one) for other in sets)))


def borne_by_definition(table, goals):
    """For each number of steps, up to the depth, all beliefs that are borne within it, and all others."""
    steps = steps_by_definition(table, goals)
    found = []
    n = 0
    while True:
        borne = [belief for belief in beliefs_of(table) if steps.get(belief, n + 1) <= n]
        if found and maximal_by_definition(borne) == maximal_by_definition(found[-1][0]):
            return found
        found.append((borne, [belief for belief in beliefs_of(table) if belief not in borne]))
        n += 1


class TestBorneTable(AnswerCase):

    def test_the_document(self):
        self.answers((((1,),), ((0,), (1,))), borne_table, SMALL_TABLE, GOAL)

    def test_no_goals(self):
        for table in (SMALL_TABLE, STAYS, line_table(10)):
            self.answers(((),), borne_table, table, ())

    def test_one_world(self):
        self.answers((((0,),),), borne_table, STAYS, ((0,),))
        self.answers((((0,),),), borne_table, (((TOUCH,),),), ((0,),))

    def test_depth_0_1_and_several(self):
        self.answers((((0, 1, 2),),), borne_table, line_table(3), ((0, 1, 2),))
        self.answers((((0,), (2,)),), borne_table, THREE_STAY, ((0,), (2,)))
        self.answers((((1, 2),), ((0, 1, 2),)), borne_table, ((((0, 1),),),) * 2 + ((((0, 2),),),), ((1, 2),))
        found = borne_table(line_table(10), ((9,),))
        self.assertEqual(len(found), 10)
        self.assertEqual(found[0], ((9,),))
        self.assertEqual(found[9], (tuple(range(10)),))

    def test_goals_that_lie_inside_others(self):
        self.answers((((1, 2),),), borne_table, THREE_STAY, ((1,), (1, 2)))

    def test_by_the_definition(self):
        for table, goals in VARIED + TEN[:1]:
            found = tuple(maximal_by_definition(borne) for borne, _ in borne_by_definition(table, goals))
            self.answers(found, borne_table, table, goals)
            for sets in found:
                self.ascends(sets)

    def test_a_belief_is_borne_exactly_if_it_lies_inside_one(self):
        depths = set()
        for table, goals in VARIED:
            found = borne_table(table, goals)
            depths.add(len(found) - 1)
            for belief in beliefs_of(table):
                steps = steps_of(table, goals, belief)
                for n, told in enumerate(found):
                    self.assertEqual(steps is not None and steps <= n, inside_any(belief, told))
                self.assertTrue(steps is None or steps < len(found))
        self.assertGreaterEqual(depths, {0, 1, 2, 4})


class TestUnborneTable(AnswerCase):

    def test_ordinary(self):
        self.answers((((0,),), ((0, 1),)), unborne_table, SMALL_TABLE, GOAL)

    def test_no_goals(self):
        self.answers((((0,), (1,)),), unborne_table, SMALL_TABLE, ())
        self.answers((((0,),),), unborne_table, STAYS, ())

    def test_one_world(self):
        self.answers(((),), unborne_table, STAYS, ((0,),))

    def test_all_is_borne_at_last(self):
        found = unborne_table(line_table(10), ((9,),))
        self.assertEqual(len(found), 10)
        self.assertEqual(found[8:], (((0,),), ()))

    def test_by_the_definition(self):
        for table, goals in VARIED + TEN[1:]:
            found = tuple(minimal_by_definition(others) for _, others in borne_by_definition(table, goals))
            self.answers(found, unborne_table, table, goals)
            for sets in found:
                self.ascends(sets)

    def test_a_belief_is_not_borne_exactly_if_one_lies_inside_it(self):
        for table, goals in VARIED:
            found = unborne_table(table, goals)
            self.assertEqual(len(found), len(borne_table(table, goals)))
            for belief in beliefs_of(table):
                steps = steps_of(table, goals, belief)
                for n, told in enumerate(found):
                    self.assertEqual(steps is None or steps > n, any(set(one) <= set(belief) for one in told))


class TestSafeTable(AnswerCase):

    def test_ordinary(self):
        self.answers((((0, 1),), ()), safe_table, SMALL_TABLE, ())
        self.answers(((), ((0,),)), safe_table, (((TOUCH,),),), ())
        self.answers((((0,),), ()), safe_table, (((TOUCH,),),), ((0,),))
        self.answers((((0,),), ()), safe_table, STAYS, ())

    def test_some_are_safe(self):
        table = ((((0, 0),), (TOUCH,)), ((TOUCH,), ((0, 1),)), ((TOUCH,), (TOUCH,)))
        self.answers((((0,), (1,)), ((0, 1), (2,))), safe_table, table, ())
        self.answers((((0,), (1,), (2,)), ((0, 1), (0, 2), (1, 2))), safe_table, table, ((2,),))

    def test_by_the_definition(self):
        for table, goals in VARIED + TEN:
            found = safe_by_definition(table, goals)
            others = [belief for belief in beliefs_of(table) if belief not in found]
            answer = (maximal_by_definition(found), minimal_by_definition(others))
            self.answers(answer, safe_table, table, goals)
            self.ascends(answer[0])
            self.ascends(answer[1])

    def test_a_belief_is_safe_or_not(self):
        for table, goals in VARIED:
            kept, lost = safe_table(table, goals)
            for belief in beliefs_of(table):
                is_safe = safe(table, goals, belief)
                self.assertIs(is_safe, any(inside(belief, one) for one in kept))
                self.assertIs(not is_safe, any(inside(one, belief) for one in lost))


class TestWholePolicy(AnswerCase):

    def test_nothing_to_do(self):
        self.answers((), whole_policy, SMALL_TABLE, ())
        self.answers((), whole_policy, STAYS, ((0,),))
        self.answers((), whole_policy, line_table(3), ((0, 1, 2),))

    def test_right_for_each_borne_belief_and_for_none_within_fewer(self):
        for table, goals in VARIED:
            policy = whole_policy(table, goals)
            self.answers(policy, whole_policy, table, goals)
            steps = steps_by_definition(table, goals)
            for belief in beliefs_of(table):
                n = steps.get(belief)
                if n is None:
                    self.says(False, judge_policy, table, goals, belief, 400, policy)
                    continue
                self.says(True, judge_policy, table, goals, belief, n, policy)
                if n > 0:
                    self.says(False, judge_policy, table, goals, belief, n - 1, policy)

    def test_ten_worlds(self):
        for table, goals in TEN:
            policy = whole_policy(table, goals)
            for n, told in enumerate(borne_table(table, goals)):
                for belief in told:
                    self.says(True, judge_policy, table, goals, belief, n, policy)


class TestTooLarge(AnswerCase):

    def test_ten_worlds_and_eleven(self):
        for function in FUNCTIONS:
            function(line_table(10), ((9,),))
            for table in (line_table(11), STAYS * 11, line_table(400)):
                self.raises(TooLarge, {"part": "worlds"}, function, table, ())
                self.raises(TooLarge, {"part": "worlds"}, function, table, ((0,), (1,)))


if __name__ == "__main__":
    unittest.main()
