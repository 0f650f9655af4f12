import unittest
from random import Random

from doubtborne.errors import NotLost, TooMany
from doubtborne.verdicts import find_loss, hope, judge_loss, verdict_of
from tests.answers import SMALL_TABLE, TOUCH, AnswerCase
from tests.sample_tables import (
    MOST_WEBS, TOO_LARGE_WEBS, VARIED, beliefs_of, ended_by_definition, is_belief_by_definition, line_table,
    made_table, moves_of, mutations, other_beliefs, safe_by_definition, steps_by_definition, with_short_cut)
from tests.test_refutations import right_by_definition as right_refutation
from tests.test_safety import danger_paper_by_definition as right_dangers

LIMIT = {"limit": 400}
GOAL = ((1,),)
# The world 0 leads to 1 or 2, which look different; from 1 one comes to the goal, 3; 2 stays for ever, and 4 touches.
FORK = (
    (((0, 1), (1, 2)), ((7, 4),)), (((0, 3),), ((7, 4),)), (((0, 2),), ((7, 4),)), (((0, 3),), ((7, 4),)),
    ((TOUCH,), (TOUCH,)))
AIM = ((3,),)
# As FORK, but the one command behind which there is a hope may lead to the danger, too.
RISKY = ((((0, 1), (1, 4)), ((2, 0),)),) + FORK[1:]


def shortest_hope(table, goals, steps, kept, belief, n):
    """The first shortest hope, or None: point 62, word for word; kept are all safe beliefs."""
    for k in range(1, n + 1):
        found = hope_of(table, steps, kept, belief, n, k)
        if found is not None:
            return found
    return None


def hope_of(table, steps, kept, belief, n, k):
    """The first hope of just k pairs, or None."""
    if k == 0:
        return () if steps.get(belief, n + 1) <= n else None
    for command, others in sorted(moves_of(table, belief).items()):
        if all(other in kept for other in others.values()):
            for reading in sorted(others):
                behind = hope_of(table, steps, kept, others[reading], n - 1, k - 1)
                if behind is not None:
                    return ((command, reading),) + behind
    return None


def verdict_by_definition(table, goals, steps, kept, belief, n):
    """The verdict: point 62, word for word."""
    if ended_by_definition(goals, belief):
        return "ended"
    if steps.get(belief, n + 1) <= n:
        return "sure"
    if belief not in kept:
        return "danger"
    return "lost" if shortest_hope(table, goals, steps, kept, belief, n) is None else "maybe"


def right_by_definition(table, goals, belief, n, paper):
    """Whether the loss paper is right: point 63, word for word."""
    refuted, dangers, losing = paper
    # The first two properties of a refutation, and of a danger paper, with starts inside which all lies.
    everywhere = tuple(range(len(table)))
    if refuted and not right_refutation(table, goals, everywhere, 0, refuted):
        return False
    if dangers and not right_dangers(table, goals, everywhere, dangers):
        return False
    for one, k in losing:
        if not is_belief_by_definition(table, one) or not 0 <= k <= 60:
            return False
        if not any(set(b) <= set(one) and (m is None or m >= k) for b, m in refuted):
            return False
        for others in moves_of(table, one).values() if k else ():
            has_danger = any(set(b) <= set(other) for other in others.values() for b, _ in dangers)
            if not has_danger and not all((other, k - 1) in losing for other in others.values()):
                return False
    return (belief, n) in losing


class TestVerdictOf(AnswerCase):

    def test_the_document(self):
        self.answers("lost", verdict_of, SMALL_TABLE, GOAL, (0, 1), 0)
        self.answers("maybe", verdict_of, SMALL_TABLE, GOAL, (0, 1), 3)

    def test_ended(self):
        for n in (0, 1, 60):
            self.answers("ended", verdict_of, SMALL_TABLE, GOAL, (1,), n)
            self.answers("ended", verdict_of, FORK, ((4,), (1, 3)), (4,), n)
            self.answers("ended", verdict_of, FORK, ((4,), (1, 3)), (1,), n)

    def test_sure(self):
        for n in (1, 2, 60):
            self.answers("sure", verdict_of, SMALL_TABLE, GOAL, (0,), n)
            self.answers("sure", verdict_of, FORK, AIM, (1,), n)
        self.answers("lost", verdict_of, FORK, AIM, (1,), 0)
        for n in range(61):
            self.answers("sure" if n >= 58 else "lost", verdict_of, line_table(60), ((59,),), (1,), n)

    def test_danger(self):
        for n in (0, 1, 60):
            self.answers("danger", verdict_of, FORK, AIM, (4,), n)
            self.answers("danger", verdict_of, FORK, AIM, (1, 4), n)
            self.answers("danger", verdict_of, (((TOUCH,),),), (), (0,), n)

    def test_maybe(self):
        for n in range(6):
            self.answers("maybe" if n >= 2 else "lost", verdict_of, FORK, AIM, (0,), n)
        self.answers("maybe", verdict_of, FORK, AIM, (0, 1), 2)
        self.answers("maybe", verdict_of, FORK, AIM, (0,), 60)

    def test_a_command_behind_which_something_is_not_safe_gives_no_hope(self):
        for n in range(6):
            self.answers("lost", verdict_of, RISKY, AIM, (0,), n)
        self.answers("sure", verdict_of, RISKY, AIM, (1,), 1)

    def test_lost(self):
        for n in (0, 1, 5, 60):
            self.answers("lost", verdict_of, FORK, AIM, (2,), n)
            self.answers("lost", verdict_of, line_table(5), (), (0,), n)

    def test_0_and_60(self):
        for table, goals in VARIED:
            steps, kept = steps_by_definition(table, goals), safe_by_definition(table, goals)
            for belief in beliefs_of(table):
                words = ("ended", "danger", "lost") if belief not in steps else ("ended", "sure", "lost", "danger")
                self.assertIn(verdict_of(table, goals, belief, 0), words)
                told = verdict_of(table, goals, belief, 60)
                self.answers(told, verdict_of, table, goals, belief, 60)
                self.assertEqual(told in ("ended", "sure"), belief in steps)
                self.assertEqual(told == "danger", belief not in kept)

    def test_by_the_definition(self):
        found = set()
        for table, goals in VARIED + [(made_table(seed, 6, 2, 3), ((0, 1), (3,))) for seed in range(200, 220)]:
            steps, kept = steps_by_definition(table, goals), safe_by_definition(table, goals)
            for belief in beliefs_of(table):
                for n in (0, 1, 2, 4):
                    told = verdict_by_definition(table, goals, steps, kept, belief, n)
                    self.answers(told, verdict_of, table, goals, belief, n)
                    found.add(told)
        self.assertEqual(found, {"ended", "sure", "danger", "maybe", "lost"})


class TestHope(AnswerCase):

    def test_the_document(self):
        self.answers(((0, 1),), hope, SMALL_TABLE, GOAL, (0, 1), 3)

    def test_one_pair_and_several(self):
        self.answers(((0, 0),), hope, FORK, AIM, (0,), 2)
        self.answers(((0, 0),), hope, FORK, AIM, (0,), 60)
        # The line ends in the fork, and what is ahead of it can only be gone on.
        for length in range(5):
            table = FORK + tuple((((0, 0 if at == 0 else 4 + at),), (TOUCH,)) for at in range(length))
            start = (4 + length,) if length else (0,)
            self.answers(((0, 0),) * (length + 1), hope, table, AIM, start, length + 2)
            self.answers(None, hope, table, AIM, start, length + 1)

    def test_none_for_each_other_verdict(self):
        for belief, n in (((3,), 3), ((1,), 1), ((4,), 5), ((0,), 1), ((2,), 60), ((0, 4), 9), ((1,), 0)):
            self.answers(None, hope, FORK, AIM, belief, n)
        for n in (0, 1, 60):
            self.answers(None, hope, RISKY, AIM, (0,), n)

    def test_the_first_one_of_several_shortest_ones(self):
        # Behind the command 1 the reading 2 leads to the goal, as do the readings 3 and 4 behind the command 2.
        table = (
            (((0, 0),), ((1, 0), (2, 1)), ((3, 1), (4, 1), (5, 0))), (((0, 1),),) * 3)
        self.answers(((1, 2),), hope, table, GOAL, (0,), 1)
        swapped = tuple((row[0], row[2], row[1]) for row in table)
        self.answers(((1, 3),), hope, swapped, GOAL, (0,), 1)
        # A longer one would come first.
        first = ((((0, 2), (9, 0)), ((1, 0), (2, 1)), ((0, 0),)), table[1], (((0, 1), (6, 0)),) * 3)
        self.answers(((1, 2),), hope, first, GOAL, (0,), 1)
        self.answers(((0, 0),), hope, first, ((1,), (2,)), (0,), 1)

    def test_a_longer_one_only_if_time_is_left(self):
        # Behind the reading 1 one step more is needed, behind the reading 0 two.
        table = ((((0, 1), (1, 2), (2, 0)),), (((0, 2),),), (((0, 3),),), (((0, 3),),))
        self.answers(None, hope, table, ((3,),), (0,), 1)
        self.answers(((0, 1),), hope, table, ((3,),), (0,), 2)
        self.answers(((0, 0),), hope, table, ((3,),), (0,), 3)

    def test_by_the_definition(self):
        lengths = set()
        for table, goals in VARIED + [(made_table(seed, 6, 2, 3), ((0, 1), (3,))) for seed in range(200, 220)]:
            steps, kept = steps_by_definition(table, goals), safe_by_definition(table, goals)
            for belief in beliefs_of(table):
                for n in (1, 2, 4):
                    found = None
                    if verdict_by_definition(table, goals, steps, kept, belief, n) == "maybe":
                        found = shortest_hope(table, goals, steps, kept, belief, n)
                    self.answers(found, hope, table, goals, belief, n)
                    lengths.add(0 if found is None else len(found))
        self.assertGreaterEqual(lengths, {0, 1, 2})


class TestLimit(AnswerCase):

    def test_the_web_is_needed(self):
        table, start = MOST_WEBS[1]
        self.answers("lost", verdict_of, table, (), start, 60)
        self.answers(None, hope, table, (), start, 60)
        self.says(True, judge_loss, table, (), start, 60, find_loss(table, (), start, 60))
        for table, start in TOO_LARGE_WEBS:
            for function in (verdict_of, hope, find_loss):
                for n in (0, 60):
                    self.raises(TooMany, LIMIT, function, table, (), start, n)
                    self.raises(TooMany, LIMIT, function, with_short_cut(table), ((len(table) - 1,),), start, n)
            self.answers("ended", verdict_of, table, (start,), start, 60)
            self.raises(NotLost, {}, find_loss, table, (start,), start, 60)


class TestFindLoss(AnswerCase):

    def finds(self, table, goals, belief, n):
        """What is found is right, by the judge and word for word; it is the same when asked again."""
        paper = find_loss(table, goals, belief, n)
        self.answers(paper, find_loss, table, goals, belief, n)
        self.says(True, judge_loss, table, goals, belief, n, paper)
        self.assertTrue(right_by_definition(table, goals, belief, n, paper))

    def test_ordinary(self):
        for n in (0, 1, 2, 59, 60):
            self.finds(FORK, AIM, (2,), n)
            self.finds(FORK, AIM, (4,), n)
            self.finds(RISKY, AIM, (0,), n)
            self.finds(FORK, AIM, (0, 4), n)
        self.finds(FORK, AIM, (0,), 1)
        self.finds(SMALL_TABLE, GOAL, (0, 1), 0)

    def test_not_lost(self):
        for belief, n in (((3,), 0), ((3,), 60), ((1,), 1), ((0,), 2), ((0, 1), 60)):
            self.raises(NotLost, {}, find_loss, FORK, AIM, belief, n)

    def test_just_if_the_verdict_is_lost_or_danger(self):
        for table, goals in VARIED:
            for belief in beliefs_of(table):
                for n in (0, 1, 2, 7):
                    if verdict_of(table, goals, belief, n) in ("lost", "danger"):
                        self.finds(table, goals, belief, n)
                    else:
                        self.raises(NotLost, {}, find_loss, table, goals, belief, n)


# From 0 one comes to 1 and then to 2, which stays; by the command 1 one comes to 4, which touches, or may do so.
LOSING = (
    (((0, 1),), ((0, 4),)), (((0, 2),), ((1, 4), (2, 3))), (((0, 2),), (TOUCH, (0, 3))), (((0, 3),), ((0, 3),)),
    ((TOUCH,), (TOUCH,)))
REFUTED = tuple(((world,), None) for world in (0, 1, 2, 4))
DANGERS = (((4,), 1),)
PAPER = (REFUTED, DANGERS, (((0,), 2), ((1,), 1), ((2,), 0)))


class TestJudgeLoss(AnswerCase):

    def judges(self, expected, paper, belief=(0,), n=2):
        self.says(expected, judge_loss, LOSING, AIM, belief, n, paper)
        self.assertIs(right_by_definition(LOSING, AIM, belief, n, paper), expected)

    def spoilt(self, at, entries):
        """The paper with other entries of one of its parts is not right."""
        self.judges(False, PAPER[:at] + (entries,) + PAPER[at + 1:])

    def kept(self, at, entries):
        """The paper with other entries of one of its parts stays right."""
        self.judges(True, PAPER[:at] + (entries,) + PAPER[at + 1:])

    def test_right_ones(self):
        self.judges(True, PAPER)
        self.judges(True, PAPER, (1,), 1)
        self.judges(True, PAPER, (2,), 0)
        self.judges(True, tuple(part[::-1] for part in PAPER))
        self.judges(True, tuple(part + part for part in PAPER))
        long = tuple(((2,), k) for k in range(61))
        self.judges(True, (REFUTED, DANGERS, long), (2,), 60)

    def test_empty_parts(self):
        self.judges(False, ((), (), ()))
        for at in range(3):
            self.spoilt(at, ())
        self.judges(True, (REFUTED, (), (((2,), 1), ((2,), 0))), (2,), 1)

    def test_a_time_that_is_not_in_the_paper(self):
        for belief, n in (((0,), 0), ((0,), 1), ((0,), 3), ((1,), 2), ((2,), 1), ((0, 1), 2), ((3,), 0)):
            self.judges(False, PAPER, belief, n)

    def test_one_entry_less(self):
        for at in range(3):
            for number in range(len(PAPER[at])):
                self.spoilt(at, PAPER[at][:number] + PAPER[at][number + 1:])

    def test_needless_entries(self):
        self.kept(0, REFUTED + (((0, 3), 5), ((0,), 7), ((0,), None)))
        self.kept(1, DANGERS + (((4,), 5), ((3, 4), 1)))
        self.kept(2, PAPER[2] + (((0,), 0), ((1,), 0), ((2,), 1)))
        self.kept(2, PAPER[2] + (((4,), 0), ((4,), 60), ((1, 4), 0)))

    def test_wrong_entries_of_refuted(self):
        for entry in (((3,), 0), ((3,), None), ((), 0), ((1, 0), 0), ((0, 0), 0), ((5,), 0), ((-1,), 0), ((0,), -1)):
            self.spoilt(0, REFUTED + (entry,))
        self.spoilt(0, (((0,), 2), ((1,), 1), ((2,), 1)))
        self.kept(0, (((0,), 2), ((1,), 1), ((2,), 0), ((4,), None)))
        self.spoilt(0, (((0,), 1), ((1,), 1), ((2,), 0), ((4,), None)))
        self.spoilt(0, (((0,), 2), ((1,), 0), ((2,), 0), ((4,), None)))
        # They need not lie inside the belief.
        self.kept(0, (((0,), None), ((1,), None), ((2,), None), ((4,), None)))

    def test_an_entry_of_refuted_inside_the_belief(self):
        paper = (REFUTED, DANGERS, (((2, 3), 0),))
        self.judges(True, paper, (2, 3), 0)
        self.judges(False, ((((2, 3), None),) + REFUTED[3:], DANGERS, (((2,), 0),)), (2,), 0)

    def test_wrong_entries_of_dangers(self):
        for entry in (((3,), 1), ((4,), 0), ((4,), -1), ((), 1), ((4, 4), 1), ((5,), 1), ((0,), 1), ((2,), 5)):
            self.spoilt(1, DANGERS + (entry,))
        self.spoilt(1, (((1,), 1),))

    def test_dangers_that_lean_on_one_another(self):
        # From each of two worlds one comes to the other one, and nothing is ever touched.
        table = ((((0, 1),),), (((0, 0),),), (((0, 0),),))
        losing = (((2,), 1),)
        refuted = tuple(((world,), None) for world in range(3))
        for numbers in ((1, 1), (1, 2), (2, 1), (5, 5)):
            dangers = (((0,), numbers[0]), ((1,), numbers[1]))
            self.says(False, judge_loss, table, (), (2,), 1, (refuted, dangers, losing))
        both = (((0,), 0), ((1,), 0))
        self.says(True, judge_loss, table, (), (2,), 1, (refuted, (), losing + both))
        touching = ((((0, 1),),), ((TOUCH,),), (((0, 0),),))
        dangers = (((0,), 2), ((1,), 1))
        self.says(True, judge_loss, touching, (), (2,), 1, (refuted, dangers, losing))
        self.says(False, judge_loss, touching, (), (2,), 1, (refuted, (((0,), 1), ((1,), 1)), losing))

    def test_wrong_entries_of_losing(self):
        for entry in (((3,), 0), ((), 0), ((1, 0), 0), ((5,), 0), ((-1,), 0), ((2,), -1), ((2,), 61), ((2,), 1000),
                      ((0,), 3), ((0,), 1), ((1,), 2)):
            self.spoilt(2, PAPER[2] + (entry,))
        self.kept(2, PAPER[2] + (((0,), 1), ((1,), 0)))
        self.spoilt(2, (((0,), 2), ((1,), 0), ((2,), 0)))
        self.spoilt(2, (((0,), 2), ((1,), 1), ((2,), 1)))
        # What is known to be losing is asked for as it is, and not for what contains it.
        self.spoilt(2, (((0,), 2), ((0, 1), 1), ((2,), 0)))

    def test_a_belief_after_that_contains_a_danger(self):
        # Behind the command 1 from 1 one reading may lead to the danger, and the other one to the goal.
        self.judges(True, PAPER, (1,), 1)
        self.spoilt(1, (((3, 4), 1),))
        self.judges(False, (REFUTED, (), PAPER[2]), (1,), 1)

    def test_changed_ones_by_the_definition(self):
        def numbers(n):
            return (0, -1, 1, 2, None, 61) + (() if n is None else (n + 1, n - 1))

        def times(n):
            return (0, -1, 1, 61, 60, n + 1, n - 1)
        dice = Random(3)
        many = 0
        for table, goals in VARIED[::2]:
            for belief in beliefs_of(table)[::3]:
                for n in (0, 2):
                    if verdict_of(table, goals, belief, n) not in ("lost", "danger"):
                        continue
                    paper = find_loss(table, goals, belief, n)
                    for at, others in enumerate((numbers, times, times)):
                        changed = mutations(paper[at], (other_beliefs, others))
                        for part in dice.sample(changed, min(len(changed), 60)):
                            other = paper[:at] + (part,) + paper[at + 1:]
                            expected = right_by_definition(table, goals, belief, n, other)
                            self.assertIs(judge_loss(table, goals, belief, n, other), expected)
                            many += expected
        self.assertGreater(many, 100)


if __name__ == "__main__":
    unittest.main()
