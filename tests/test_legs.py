import unittest
from itertools import combinations
from random import Random

from doubtborne.errors import NotBorne
from doubtborne.legs import cut, joined, judge_chain, judge_leg
from doubtborne.policies import find_policy, judge_policy
from tests.answers import SMALL_TABLE, TOUCH, AnswerCase
from tests.sample_tables import (
    VARIED, beliefs_of, ended_by_definition, inside_any, is_belief_by_definition, line_table,
    steps_by_definition)
from tests.test_policies import right_by_definition

LINE = line_table(6)
END = ((5,),)


def step(world, n):
    """An entry of a policy that goes on along the line from this world."""
    return ((world,), n, 0)


# From 0 to 5 along the line: to 2, then to 4, then to 5.
FIRST = ("leg", ((0,),), ((2,),), 2, (step(0, 2), step(1, 1)))
SECOND = ("leg", ((2,),), ((4,),), 2, (step(2, 2), step(3, 1)))
LAST = ("leg", ((4,),), END, 1, (step(4, 1),))
CHAIN = (FIRST, SECOND, LAST)


def leg_by_definition(table, leg):
    """Whether the leg is right: point 57, word for word."""
    _, inlets, outlets, n, policy = leg
    if inlets == () or outlets == () or n < 0:
        return False
    if not all(is_belief_by_definition(table, belief) for belief in inlets + outlets):
        return False
    return all(right_by_definition(table, outlets, inlet, n, policy) for inlet in inlets)


def chain_by_definition(table, goals, start, chain):
    """Whether the chain is right: point 57, word for word."""
    if chain == () or not all(leg_by_definition(table, leg) for leg in chain):
        return False
    for leg, behind in zip(chain, chain[1:]):
        if not all(inside_any(outlet, behind[1]) for outlet in leg[2]):
            return False
    return inside_any(start, chain[0][1]) and all(ended_by_definition(goals, outlet) for outlet in chain[-1][2])


def cut_by_definition(goals, start, m, policy, cuts):
    """The legs one by one: point 58, word for word."""
    k = [m] + list(cuts) + [0]
    chain = []
    for i in range(1, len(cuts) + 2):
        inlets = (start,) if i == 1 else chain[-1][2]
        outlets = tuple(sorted(set(goals) | {belief for belief, n, _ in policy if n <= k[i]}))
        entries = [
            (belief, n - k[i], command) for belief, n, command in policy
            if n > k[i] and (i == 1 or n <= k[i - 1])]
        chain.append(("leg", inlets, outlets, k[i - 1] - k[i], tuple(entries)))
    return tuple(chain)


def all_cuts(m):
    """All tuples of at most three cuts for m."""
    numbers = range(m - 1, 0, -1)
    return [cuts for size in range(4) for cuts in combinations(numbers, size)]


def with_part(leg, at, part):
    """The leg with another part."""
    return leg[:at] + (part,) + leg[at + 1:]


class TestJudgeLeg(AnswerCase):

    def judges(self, expected, leg, table=LINE):
        self.says(expected, judge_leg, table, leg)
        self.assertIs(leg_by_definition(table, leg), expected)

    def test_right_ones(self):
        for leg in CHAIN:
            self.judges(True, leg)
        self.judges(True, with_part(FIRST, 3, 400))
        self.judges(True, with_part(FIRST, 1, ((0,), (1,), (2,))))
        self.judges(True, with_part(FIRST, 1, ((1,), (0,), (1,))))
        self.judges(True, with_part(FIRST, 2, ((2,), (0, 5))))
        self.judges(True, ("leg", ((3,),), ((3,), (1,)), 0, ()))
        self.judges(True, ("leg", ((3,), (2, 3)), ((2, 3, 4),), 0, ()))

    def test_no_inlet_and_no_outlet(self):
        self.judges(False, with_part(FIRST, 1, ()))
        self.judges(False, with_part(FIRST, 2, ()))
        self.judges(False, ("leg", (), ((3,),), 0, ()))

    def test_n(self):
        self.judges(False, with_part(FIRST, 3, 1))
        for n in (-1, -1000):
            self.judges(False, with_part(FIRST, 3, n))
            self.judges(False, ("leg", ((3,),), ((3,),), n, ()))

    def test_a_policy_that_is_wrong_for_one_of_the_inlets(self):
        self.judges(False, with_part(FIRST, 1, ((0,), (3,))))
        self.judges(False, with_part(FIRST, 1, ((3,), (0,))))
        self.judges(False, with_part(FIRST, 1, ((0,), (0, 1))))
        self.judges(False, with_part(FIRST, 4, FIRST[4][1:]))
        self.judges(False, with_part(FIRST, 4, FIRST[4] + (step(5, 0),)))
        self.judges(False, ("leg", ((3,),), ((3,),), 0, (step(0, 1),)))

    def test_a_part_that_is_no_belief(self):
        for wrong in ((), (6,), (-1,), (1000,), (0, 0), (1, 0)):
            self.judges(False, with_part(FIRST, 1, ((0,), wrong)))
            self.judges(False, with_part(FIRST, 1, (wrong,)))
            self.judges(False, with_part(FIRST, 2, ((2,), wrong)))
            self.judges(False, with_part(FIRST, 2, (wrong, (2,))))
        # The inlet would be ended, and is no belief all the same.
        self.judges(False, ("leg", ((1, 0),), ((0, 1),), 0, ()))
        self.judges(False, ("leg", ((),), ((0, 1),), 0, ()))
        self.judges(False, ("leg", ((0,),), ((1, 0),), 0, ()))

    def test_a_command_that_may_touch(self):
        self.judges(True, ("leg", ((0,),), ((1,),), 1, (((0,), 1, 1),)), SMALL_TABLE)
        self.judges(False, ("leg", ((1,),), ((0,),), 1, (((1,), 1, 1),)), SMALL_TABLE)
        self.judges(False, ("leg", ((0,),), ((0,),), 0, (((0,), 1, 0),)), (((TOUCH,),),))


class TestJudgeChain(AnswerCase):

    def judges(self, expected, chain, start=(0,), goals=END, table=LINE):
        self.says(expected, judge_chain, table, goals, start, chain)
        self.assertIs(chain_by_definition(table, goals, start, chain), expected)

    def test_right_ones(self):
        self.judges(True, CHAIN)
        self.judges(True, CHAIN[1:], (2,))
        self.judges(True, CHAIN[2:], (4,))
        self.judges(True, (("leg", ((0,),), END, 5, tuple(step(world, 5 - world) for world in range(5))),))
        self.judges(True, (("leg", ((4, 5),), ((4, 5),), 0, ()),), (4,), ((3, 4, 5),))

    def test_no_leg(self):
        self.judges(False, ())
        self.judges(False, (), (5,))

    def test_a_leg_that_is_wrong(self):
        for at in range(3):
            for other in (with_part(CHAIN[at], 3, CHAIN[at][3] - 1), with_part(CHAIN[at], 4, CHAIN[at][4][1:])):
                self.judges(False, CHAIN[:at] + (other,) + CHAIN[at + 1:])
        for at in range(3):
            self.judges(False, CHAIN[:at] + CHAIN[at + 1:])

    def test_a_start_that_lies_in_no_first_inlet(self):
        self.judges(False, CHAIN, (1,))
        self.judges(False, CHAIN, (0, 1))
        self.judges(False, CHAIN, (2,))
        self.judges(False, CHAIN, (5,))
        wide = ("leg", ((2, 3), (0, 1)), ((2, 3),), 2, (((0, 1), 2, 0), ((1, 2), 1, 0)))
        behind = ("leg", ((2, 3),), ((5,),), 3, (((2, 3), 3, 0), ((3, 4), 2, 0), ((4, 5), 1, 0)))
        for start in ((0,), (1,), (0, 1), (2,), (3,), (2, 3)):
            self.judges(True, (wide, behind), start)
        for start in ((0, 2), (1, 2), (4,)):
            self.judges(False, (wide, behind), start)

    def test_an_outlet_that_lies_in_no_inlet_of_the_next_leg(self):
        self.judges(False, (with_part(FIRST, 2, ((2,), (1,))),) + CHAIN[1:])
        self.judges(False, (FIRST, with_part(SECOND, 2, ((3,), (4,))), LAST))
        self.judges(False, CHAIN[::-1])
        self.judges(False, (FIRST, SECOND, SECOND))
        self.judges(True, (FIRST, with_part(SECOND, 1, ((3,), (2,))), LAST))

    def test_a_last_outlet_that_is_not_ended(self):
        self.judges(False, CHAIN[:2])
        self.judges(False, CHAIN[:2] + (with_part(LAST, 2, ((5,), (3,))),))
        self.judges(False, CHAIN, goals=())
        self.judges(False, CHAIN, goals=((4,), (3,)))
        self.judges(True, CHAIN, goals=((4, 5), (3,)))


class TestJoined(AnswerCase):

    def test_one_leg(self):
        for leg in CHAIN:
            self.answers(leg[4], joined, (leg,))

    def test_several(self):
        self.answers(tuple(step(world, 5 - world) for world in range(5)), joined, CHAIN)
        self.answers((step(0, 4), step(1, 3), step(2, 2), step(3, 1)), joined, CHAIN[:2])

    def test_legs_without_entries(self):
        nothing = ("leg", ((0,),), ((0,),), 0, ())
        self.answers((), joined, (nothing,))
        self.answers((), joined, (nothing, nothing))
        self.answers(joined(CHAIN), joined, (nothing,) + CHAIN[:1] + (nothing,) + CHAIN[1:] + (nothing,))
        slow = with_part(nothing, 3, 7)
        self.answers((step(0, 9), step(1, 8)), joined, (FIRST, slow))
        self.answers((step(0, 2), step(1, 1)), joined, (slow, FIRST))

    def test_a_chain_that_is_wrong(self):
        wrong = ("leg", (), (), -3, (((), 0, -1), ((1, 1), 1000, 7)))
        self.answers((((), 1, -1), ((1, 1), 1001, 7), step(4, 1)), joined, (wrong, LAST))
        self.answers((step(4, -2), ((), 0, -1), ((1, 1), 1000, 7)), joined, (LAST, wrong))

    def test_right_within_the_sum_of_all_n(self):
        for m in range(7):
            self.says(m >= 5, judge_policy, LINE, END, (0,), m, joined(CHAIN))
        many = 0
        for table, goals in VARIED:
            for start, steps in steps_by_definition(table, goals).items():
                if steps >= 2:
                    many += 1
                    policy = find_policy(table, goals, start)
                    for cuts in all_cuts(steps + 1):
                        chain = cut(goals, start, steps + 1, policy, cuts)
                        found = joined(chain)
                        self.says(True, judge_chain, table, goals, start, chain)
                        self.says(True, judge_policy, table, goals, start, sum(leg[3] for leg in chain), found)
        self.assertGreater(many, 10)


class TestCut(AnswerCase):

    POLICY = tuple(step(world, 5 - world) for world in range(5))

    def cuts(self, expected, *arguments):
        self.answers(expected, cut, *arguments)
        self.assertEqual(cut_by_definition(*arguments), expected)

    def test_no_cut(self):
        self.cuts((("leg", ((0,),), END, 5, self.POLICY),), END, (0,), 5, self.POLICY, ())
        self.cuts((("leg", ((5,),), END, 0, ()),), END, (5,), 0, (), ())
        self.cuts((("leg", ((0,),), ((3,), (5,)), 2, self.POLICY),), ((5,), (3,), (5,)), (0,), 2, self.POLICY, ())

    def test_one(self):
        outlets = ((3,), (4,), (5,))
        self.cuts((
            ("leg", ((0,),), outlets, 3, (step(0, 3), step(1, 2), step(2, 1))),
            ("leg", outlets, END, 2, (step(3, 2), step(4, 1)))), END, (0,), 5, self.POLICY, (2,))

    def test_several(self):
        self.cuts((
            ("leg", ((0,),), ((1,), (2,), (3,), (4,), (5,)), 1, (step(0, 1),)),
            ("leg", ((1,), (2,), (3,), (4,), (5,)), ((4,), (5,)), 3, (step(1, 3), step(2, 2), step(3, 1))),
            ("leg", ((4,), (5,)), END, 1, (step(4, 1),))), END, (0,), 5, self.POLICY, (4, 1))

    def test_m_above_and_below_the_steps(self):
        found = cut(END, (0,), 9, self.POLICY, (7, 2))
        self.assertEqual([leg[3] for leg in found], [2, 5, 2])
        self.assertEqual([leg[4] for leg in found], [
            (), (step(0, 3), step(1, 2), step(2, 1)), (step(3, 2), step(4, 1))])
        self.cuts(found, END, (0,), 9, self.POLICY, (7, 2))
        found = cut(END, (0,), 3, self.POLICY, (1,))
        self.assertEqual([leg[4] for leg in found], [
            (step(0, 4), step(1, 3), step(2, 2), step(3, 1)), (step(4, 1),)])
        self.cuts(found, END, (0,), 3, self.POLICY, (1,))

    def test_order_and_entries_that_stand_twice(self):
        policy = (step(4, 1), step(0, 5), step(3, 2), step(3, 2), step(0, 5), step(4, 1))
        self.cuts((
            ("leg", ((0,),), ((3,), (4,), (5,)), 4, (step(0, 3), step(0, 3))),
            ("leg", ((3,), (4,), (5,)), END, 2, (step(4, 1), step(3, 2), step(3, 2), step(4, 1)))),
            END, (0,), 6, policy, (2,))

    def test_a_wrong_policy(self):
        policy = (((4, 4), 1, -1), ((1000,), 1000, 9), ((3, -1), 3, 0))
        self.cuts((
            ("leg", ((0,),), ((4, 4), (5,)), 3, (((1000,), 998, 9), ((3, -1), 1, 0))),
            ("leg", ((4, 4), (5,)), END, 2, (((4, 4), 1, -1),))), END, (0,), 5, policy, (2,))

    def test_right_exactly_if_the_policy_is(self):
        dice = Random(5)
        found = set()
        for table, goals in VARIED:
            if goals == ():
                continue
            for start in beliefs_of(table):
                for policy in self.policies(table, goals, start, dice):
                    for m in (0, 1, 2, 4):
                        is_right = right_by_definition(table, goals, start, m, policy)
                        for cuts in all_cuts(m):
                            chain = cut(goals, start, m, policy, cuts)
                            self.assertEqual(chain, cut_by_definition(goals, start, m, policy, cuts))
                            self.assertIs(judge_chain(table, goals, start, chain), is_right)
                            found.add((is_right, len(cuts)))
        self.assertEqual(len(found), 8)

    def policies(self, table, goals, start, dice):
        """A right policy, if there is one, and policies that differ from it in something."""
        try:
            policy = find_policy(table, goals, start)
        except NotBorne:
            policy = (((0,), 2, 0), (start, 1, 0))
        wrong = [policy[1:], policy + (((len(table),), 1, 0),), policy + ((start + start, 3, 0),)]
        for at, (belief, n, command) in enumerate(policy):
            change = dice.choice([
                (belief, n + 1, command), (belief, max(1, n - 1), command), (belief, n, command + 1),
                (belief, n, command - 1), (belief + (0,), n, command), (belief[:1], n, command),
                (belief, 1000, command)])
            wrong.append(policy[:at] + (change,) + policy[at + 1:])
        return [policy, policy[::-1]] + wrong


if __name__ == "__main__":
    unittest.main()
