import unittest
from itertools import product

from doubtborne.errors import IsNoticed, TooMany
from doubtborne.noticing import find_unnoticed, judge_unnoticed, noticed
from tests.answers import SMALL_TABLE, TOUCH, AnswerCase
from tests.sample_tables import (
    MOST_WEBS, TOO_LARGE_WEBS, VARIED, beliefs_of, is_belief_by_definition, line_table, mutations, other_beliefs)

LIMIT = {"limit": 400}
# All worlds of two rings look the same, but for the world 4, where the command 1 may touch.
RINGS = (
    (((0, 1),), ((0, 0),)), (((0, 0),), ((0, 1),)),
    (((0, 3),), ((0, 2),)), (((0, 4),), ((0, 3),)), (((0, 2),), (TOUCH, (0, 4))))


def shown_by_definition(table, belief, command):
    """The readings that may come, with -1 for a touch, each with the belief after it."""
    pairs = {pair for world in belief for pair in table[world][command]}
    return {shown: tuple(sorted({behind for other, behind in pairs if other == shown})) for shown, _ in pairs}


def may_happen(table, belief, trace):
    """Whether a trace may happen: point 51, word for word."""
    for command, reading in trace:
        shown = shown_by_definition(table, belief, command)
        if belief == () or reading not in shown:
            return False
        belief = () if reading == -1 else shown[reading]
    return True


def traces(table, size):
    """All traces of so many pairs, in order."""
    readings = sorted({reading for row in table for pairs in row for reading, _ in pairs} - {-1})
    pairs = list(product(range(len(table[0])), readings))
    ends = sorted(product(range(len(table[0])), [-1] + readings))
    return [trace + (end,) for trace in product(pairs, repeat=size - 1) for end in ends]


def noticed_by_definition(table, first, second, most):
    """The first shortest trace of at most so many pairs that may happen from just one of them, or None."""
    for size in range(1, most + 1):
        for trace in traces(table, size):
            if may_happen(table, first, trace) != may_happen(table, second, trace):
                return trace
    return None


def pairs_by_definition(table, first, second):
    """All pairs of beliefs that can be reached, as a set."""
    found = {(first, second)}
    waiting = [(first, second)]
    while waiting:
        one, other = waiting.pop()
        for command in range(len(table[0])):
            shown, told = shown_by_definition(table, one, command), shown_by_definition(table, other, command)
            for reading in set(shown) & set(told) - {-1}:
                pair = (shown[reading], told[reading])
                if pair not in found:
                    found.add(pair)
                    waiting.append(pair)
    return found


def right_by_definition(table, first, second, paper):
    """Whether the paper is right: point 51, word for word."""
    for one, other in paper:
        if not is_belief_by_definition(table, one) or not is_belief_by_definition(table, other):
            return False
        for command in range(len(table[0])):
            shown, told = shown_by_definition(table, one, command), shown_by_definition(table, other, command)
            if set(shown) != set(told):
                return False
            if any((shown[reading], told[reading]) not in paper for reading in set(shown) - {-1}):
                return False
    return (first, second) in paper


class TestNoticed(AnswerCase):

    def both_orders(self, expected, table, first, second):
        self.answers(expected, noticed, table, first, second)
        self.answers(expected, noticed, table, second, first)

    def test_one_pair(self):
        self.both_orders(((0, 0),), SMALL_TABLE, (0,), (1,))
        self.both_orders(((0, 0),), SMALL_TABLE, (0, 1), (1,))
        self.both_orders(((0, 1),), SMALL_TABLE, (0,), (0, 1))

    def test_a_touch(self):
        self.both_orders(((1, -1),), RINGS, (4,), (0,))
        self.both_orders(((1, -1),), RINGS, (2, 3, 4), (0, 1))

    def test_several_pairs(self):
        self.both_orders(((0, 0), (1, -1)), RINGS, (3,), (0,))
        self.both_orders(((0, 0), (0, 0), (1, -1)), RINGS, (2,), (0,))
        self.both_orders(((0, 0), (1, -1)), RINGS, (3,), (2,))
        table = tuple((((0 if world < 5 else 1, min(world + 1, 6)),),) for world in range(7))
        for world in range(5):
            self.both_orders(((0, 0),), table, (world,), (6,))
            self.both_orders(((0, 0),) * (5 - world), table, (world,), (world + 1,))

    def test_none(self):
        self.both_orders(None, RINGS, (0,), (1,))
        self.both_orders(None, RINGS, (0, 1), (0,))
        self.both_orders(None, SMALL_TABLE, (0, 1), (0, 1))
        self.both_orders(None, (((TOUCH,),), ((TOUCH,),)), (0,), (1,))

    def test_equal_beliefs(self):
        for table, _ in VARIED[::3]:
            for belief in beliefs_of(table):
                self.answers(None, noticed, table, belief, belief)

    def test_a_trace_goes_on_behind_a_command_that_may_touch(self):
        table = (((TOUCH, (0, 2)),), ((TOUCH, (0, 3)),), (((0, 2),),), (((1, 3),),))
        self.both_orders(((0, 0), (0, 0)), table, (0,), (1,))
        self.both_orders(((0, 0),), table, (2,), (3,))

    def test_the_first_one_of_several_shortest_ones(self):
        # A touch comes ahead of all readings of its command, and behind those of a lesser one.
        table = (
            (((0, 0), (1, 0)), ((0, 0),)), (((0, 1), (2, 1)), (TOUCH, (0, 1))), ((TOUCH, (0, 2)), ((0, 2),)))
        self.both_orders(((0, 1),), table, (0,), (1,))
        self.both_orders(((0, -1),), table, (0,), (2,))
        self.both_orders(((0, -1),), table, (1,), (2,))
        two = (
            (((0, 2),), ((0, 2),)), (((0, 3),), ((0, 3),)), (((0, 2),), ((1, 2),)), (((0, 3),), ((2, 3),)))
        self.both_orders(((0, 0), (1, 1)), two, (0,), (1,))

    def test_by_the_definition(self):
        found = set()
        for table, _ in VARIED[::2]:
            beliefs = beliefs_of(table)[::3]
            for first, second in product(beliefs, beliefs):
                answer = noticed(table, first, second)
                self.answers(answer, noticed, table, first, second)
                expected = noticed_by_definition(table, first, second, 2)
                if expected is None and answer is not None:
                    self.assertGreater(len(answer), 2)
                    self.assertNotEqual(may_happen(table, first, answer), may_happen(table, second, answer))
                    if len(answer) == 3:
                        self.assertEqual(answer, noticed_by_definition(table, first, second, 3))
                else:
                    self.assertEqual(answer, expected)
                found.add(None if answer is None else len(answer))
        self.assertGreaterEqual(found, {None, 1, 2})


class TestLimit(AnswerCase):

    def test_exactly_400_pairs(self):
        table, (first, second) = MOST_WEBS[1]
        self.assertEqual(len(pairs_by_definition(table, (first,), (second,))), 400)
        self.answers(None, noticed, table, (first,), (second,))
        paper = find_unnoticed(table, (first,), (second,))
        self.assertEqual(len(paper), 400)
        self.says(True, judge_unnoticed, table, (first,), (second,), paper)

    def test_more_than_400_pairs(self):
        for (table, (first, second)), many in zip(TOO_LARGE_WEBS, (401, 420)):
            self.assertEqual(len(pairs_by_definition(table, (first,), (second,))), many)
            for function in (noticed, find_unnoticed):
                self.raises(TooMany, LIMIT, function, table, (first,), (second,))
                self.raises(TooMany, LIMIT, function, table, (second,), (first,))

    def test_too_many_comes_ahead_of_what_is_noticed(self):
        for table, (first, second) in TOO_LARGE_WEBS:
            telling = tuple(row + (((1 if world == first else 0, world),),) for world, row in enumerate(table))
            self.assertIsNotNone(noticed_by_definition(telling, (first,), (second,), 1))
            for function in (noticed, find_unnoticed):
                self.raises(TooMany, LIMIT, function, telling, (first,), (second,))

    def test_a_long_line(self):
        table = tuple((((0 if world < 399 else 1, min(world + 1, 399)),),) for world in range(400))
        self.answers(((0, 0),) * 399, noticed, table, (1,), (0,))
        self.answers(((0, 0),), noticed, line_table(400), (1,), (0,))


class TestFindUnnoticed(AnswerCase):

    def test_is_noticed(self):
        self.raises(IsNoticed, {}, find_unnoticed, SMALL_TABLE, (0,), (1,))
        self.raises(IsNoticed, {}, find_unnoticed, RINGS, (2,), (0,))

    def test_just_one_is_found(self):
        for table, _ in VARIED[::2]:
            beliefs = beliefs_of(table)[::3]
            for first, second in product(beliefs, beliefs):
                if noticed(table, first, second) is not None:
                    self.raises(IsNoticed, {}, find_unnoticed, table, first, second)
                    continue
                paper = find_unnoticed(table, first, second)
                self.answers(paper, find_unnoticed, table, first, second)
                self.assertTrue(right_by_definition(table, first, second, paper))
                self.says(True, judge_unnoticed, table, first, second, paper)


# The two rings of RINGS without the world that is unlike the others: no trace tells 0 from 2.
ALIKE = RINGS[:2] + ((((0, 3),), ((0, 2),)), (((0, 4),), ((0, 3),)), (((0, 2),), ((0, 4),)))
PAPER = tuple(((one,), (other,)) for one in (0, 1) for other in (2, 3, 4))


class TestJudgeUnnoticed(AnswerCase):

    def judges(self, expected, paper, first=(0,), second=(2,), table=ALIKE):
        self.says(expected, judge_unnoticed, table, first, second, paper)

    def test_right_ones(self):
        self.judges(True, PAPER)
        self.judges(True, PAPER[::-1])
        self.judges(True, PAPER[3:] + PAPER[:3])
        self.judges(True, PAPER + PAPER)
        self.judges(True, (((0,), (0,)), ((1,), (1,))), (0,), (0,))
        self.judges(True, (((0,), (0,)),), (0,), (0,), (((TOUCH,),),))

    def test_a_needless_right_entry(self):
        self.judges(True, PAPER + (((0, 1), (2, 3, 4)),))
        self.judges(True, PAPER + (((2, 3, 4), (2, 3, 4)),))

    def test_the_empty_paper(self):
        self.judges(False, ())
        self.judges(False, (), (0,), (0,))

    def test_the_pair_is_not_in_it(self):
        self.judges(False, PAPER, (2,), (0,))
        self.judges(True, tuple((other, one) for one, other in PAPER), (2,), (0,))
        self.judges(False, (((0,), (0,)), ((1,), (1,))))
        self.judges(False, PAPER, (0, 1), (2,))

    def test_a_pair_behind_is_not_in_it(self):
        for at in range(len(PAPER)):
            self.judges(False, PAPER[:at] + PAPER[at + 1:])
        self.judges(False, (((0,), (2,)),))
        self.judges(False, PAPER + (((0, 1), (2,)),))

    def test_a_part_that_is_no_belief(self):
        for wrong in ((), (0, 0), (1, 0), (-1,), (5,), (1000,), (-1, 0)):
            self.judges(False, PAPER + ((wrong, (2,)),))
            self.judges(False, PAPER + (((0,), wrong),))
            self.judges(False, ((wrong, wrong),) + PAPER)
        touching = (((TOUCH,),), ((TOUCH,),))
        self.judges(True, (((0,), (1,)),), (0,), (1,), touching)
        self.judges(False, (((0,), (1,)), ((), ())), (0,), (1,), touching)
        self.judges(False, (((0,), (1,)), ((1, 0), (1, 0))), (0,), (1,), touching)

    def test_a_touch_on_one_side_alone(self):
        self.judges(False, PAPER, table=RINGS)
        self.judges(False, tuple((other, one) for one, other in PAPER), (2,), (0,), RINGS)
        self.judges(True, PAPER + (((0, 1), (2, 3, 4)),))
        self.judges(False, (((2, 3, 4), (2, 3, 4)), ((2, 3, 4), (0, 1))), (2, 3, 4), (2, 3, 4), RINGS)

    def test_a_touch_on_both_sides(self):
        table = (((TOUCH, (0, 0)),), ((TOUCH, (0, 1)),))
        self.judges(True, (((0,), (1,)),), (0,), (1,), table)

    def test_a_reading_on_one_side_alone(self):
        table = ((((0, 0), (1, 0)),), (((0, 1),),))
        for paper in ((((0,), (1,)),), (((0,), (1,)), ((0,), (0,)), ((1,), (1,)))):
            self.judges(False, paper, (0,), (1,), table)
            self.judges(False, tuple((other, one) for one, other in paper), (1,), (0,), table)

    def test_changed_ones_by_the_definition(self):
        for table, _ in VARIED[::3]:
            beliefs = beliefs_of(table)[::4]
            for first, second in product(beliefs, beliefs):
                if noticed(table, first, second) is None:
                    paper = find_unnoticed(table, first, second)[:6]
                    for other in mutations(paper, (other_beliefs, other_beliefs)):
                        expected = right_by_definition(table, first, second, other)
                        self.assertIs(judge_unnoticed(table, first, second, other), expected)


if __name__ == "__main__":
    unittest.main()
