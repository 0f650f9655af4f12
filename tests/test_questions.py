import unittest
from itertools import combinations, product

from doubtborne.errors import TooLarge, TooMany
from doubtborne.questions import answered_within, asked, unknowable_pairs
from doubtborne.tables import is_belief, is_table
from doubtborne.webs import steps_of
from tests.answers import SMALL_TABLE, TOUCH, AnswerCase
from tests.sample_tables import (
    MOST_WEBS, TOO_LARGE_WEBS, VARIED, beliefs_of, cycles_table, line_table, web_by_definition)

LIMIT = {"limit": 400}
SOME = VARIED[:2] + VARIED[2::3]


def asked_by_definition(table, start, answers):
    """What asked returns: point 49, word for word."""
    begins = list(zip(answers, start))
    pairs = set(begins)
    waiting = list(begins)
    while waiting:
        answer, world = waiting.pop()
        for outcomes in table[world]:
            for reading, behind in outcomes:
                if reading != -1 and (answer, behind) not in pairs:
                    pairs.add((answer, behind))
                    waiting.append((answer, behind))
    pairs = sorted(pairs)
    rows = tuple(
        tuple(tuple((reading, pairs.index((answer, behind))) if reading != -1 else TOUCH
                    for reading, behind in outcomes) for outcomes in table[world])
        for answer, world in pairs)
    goals = [tuple(at for at, pair in enumerate(pairs) if pair[0] == answer) for answer in sorted(set(answers))]
    return ("asked", tuple(pairs), rows, tuple(sorted(pairs.index(pair) for pair in begins)), tuple(goals))


def answered_by_runs(table, runs, answers, n):
    """Whether it is surely answered within n steps where these pairs (first world, last world) of runs fit."""
    if len({answers[first] for first, _ in runs}) <= 1:
        return True
    if n == 0:
        return False
    for command in range(len(table[0])):
        steps = [(first, pair) for first, last in runs for pair in table[last][command]]
        if all(pair != TOUCH for _, pair in steps):
            behind = [
                {(first, last) for first, (shown, last) in steps if shown == reading}
                for reading in {pair[0] for _, pair in steps}]
            if all(answered_by_runs(table, fitting, answers, n - 1) for fitting in behind):
                return True
    return False


def all_answers(start):
    """Answers for a start: all with at most three different ones."""
    return [answers for answers in product((4, 0, 99), repeat=len(start)) if len(start) < 4 or answers[0] == 4]


class TestAsked(AnswerCase):

    def test_one_world(self):
        self.answers(("asked", ((5, 0), (5, 1)), SMALL_TABLE, (0,), ((0, 1),)), asked, SMALL_TABLE, (0,), (5,))

    def test_all_answers_equal(self):
        self.answers(
            ("asked", ((5, 0), (5, 1)), SMALL_TABLE, (0, 1), ((0, 1),)), asked, SMALL_TABLE, (0, 1), (5, 5))

    def test_all_different(self):
        rows = (
            (((0, 0), (0, 1)), ((0, 1),)), (((1, 1),), (TOUCH, (0, 0))),
            (((0, 2), (0, 3)), ((0, 3),)), (((1, 3),), (TOUCH, (0, 2))))
        self.answers(
            ("asked", ((3, 0), (3, 1), (8, 0), (8, 1)), rows, (0, 3), ((0, 1), (2, 3))),
            asked, SMALL_TABLE, (0, 1), (3, 8))
        self.answers(
            ("asked", ((3, 0), (3, 1), (8, 0), (8, 1)), rows, (1, 2), ((0, 1), (2, 3))),
            asked, SMALL_TABLE, (0, 1), (8, 3))

    def test_pairs_that_are_reached_only_later(self):
        found = asked(line_table(4), (1, 3), (7, 7))
        self.assertEqual(found[1], ((7, 1), (7, 2), (7, 3)))
        self.assertEqual(found[3:], ((0, 2), ((0, 1, 2),)))
        found = asked(line_table(4), (1, 3), (7, 2))
        self.assertEqual(found[1], ((2, 3), (7, 1), (7, 2), (7, 3)))
        self.assertEqual(found[3:], ((0, 1), ((0,), (1, 2, 3))))

    def test_a_touch_leads_to_no_pair(self):
        table = ((((0, 0),), (TOUCH,)), ((TOUCH, (0, 0)), ((0, 1),)))
        self.answers(("asked", ((0, 0),), (table[0],), (0,), ((0,),)), asked, table, (0,), (0,))
        self.answers(("asked", ((9, 0), (9, 1)), table, (1,), ((0, 1),)), asked, table, (1,), (9,))

    def test_by_the_definition(self):
        for table, _ in SOME:
            for start in beliefs_of(table):
                for answers in all_answers(start)[::2]:
                    found = asked_by_definition(table, start, answers)
                    self.answers(found, asked, table, start, answers)
                    self.ascends(found[1])
                    self.says(True, is_table, found[2])
                    self.says(True, is_belief, found[2], found[3])
                    self.assertTrue(all(is_belief(found[2], goal) for goal in found[4]))

    def test_exactly_400_and_more(self):
        self.assertEqual(len(asked(line_table(400), (0,), (5,))[1]), 400)
        self.assertEqual(len(asked(line_table(400), (0, 7), (5, 5))[1]), 400)
        ring = cycles_table(200, 1, 0)
        found = asked(ring, (0, 100), (1, 0))
        self.assertEqual(len(found[1]), 400)
        self.assertEqual(found, asked_by_definition(ring, (0, 100), (1, 0)))
        self.raises(TooMany, LIMIT, asked, cycles_table(201, 1, 0), (0, 100), (1, 0))
        self.raises(TooMany, LIMIT, asked, ring, (0, 100, 200), (1, 0, 0))
        self.raises(TooMany, LIMIT, asked, line_table(400), (0, 399), (1, 0))
        self.assertEqual(len(asked(line_table(400), (1, 399), (1, 0))[1]), 400)


class TestAnsweredWithin(AnswerCase):

    def test_0(self):
        self.answers(0, answered_within, SMALL_TABLE, (0,), (5,))
        self.answers(0, answered_within, SMALL_TABLE, (0, 1), (5, 5))

    def test_one_and_several(self):
        # All worlds of a line show readings of their own.
        self.answers(1, answered_within, line_table(5), (0, 1), (0, 1))
        table = (((((0, 1)),),), (((0, 2),),), (((1, 3),),), (((0, 3),),))
        self.answers(1, answered_within, table, (1, 2), (0, 1))
        self.answers(2, answered_within, table, (0, 1), (0, 1))
        self.answers(3, answered_within, table, (0, 3), (0, 1))
        self.answers(3, answered_within, table, (0, 1, 3), (1, 0, 0))
        self.answers(1, answered_within, table, (0, 1, 2), (0, 0, 1))
        self.answers(2, answered_within, table, (0, 1, 2), (0, 1, 0))
        self.answers(2, answered_within, table, (0, 1, 2), (99, 98, 97))

    def test_none(self):
        self.answers(None, answered_within, cycles_table(2, 1, 0), (0, 2), (0, 1))
        # Both worlds become one, and only then something is shown.
        table = ((((0, 2),),), (((0, 2),),), (((1, 2),),))
        self.answers(None, answered_within, table, (0, 1), (0, 1))
        self.answers(0, answered_within, table, (0, 1), (1, 1))

    def test_a_command_that_may_touch_is_not_given(self):
        table = (((TOUCH, (0, 0)), ((5, 0),)), (((1, 1),), ((5, 1),)))
        self.answers(None, answered_within, table, (0, 1), (0, 1))
        table = ((((0, 0),), ((5, 0),)), (((1, 1),), ((5, 1),)))
        self.answers(1, answered_within, table, (0, 1), (0, 1))

    def test_by_the_runs(self):
        found = set()
        for table, _ in SOME:
            for start in beliefs_of(table):
                for answers in all_answers(start)[1::3]:
                    told = answered_within(table, start, answers)
                    self.answers(told, answered_within, table, start, answers)
                    runs = {(world, world) for world in start}
                    by_world = dict(zip(start, answers))
                    for n in range(4):
                        self.assertEqual(
                            answered_by_runs(table, runs, by_world, n), told is not None and told <= n)
                    found.add(told)
        self.assertGreaterEqual(found, {None, 0, 1, 2})

    def test_by_the_table_that_is_asked(self):
        for table, _ in SOME[::4]:
            for start in beliefs_of(table):
                answers = tuple(world % 2 for world in start)
                _, _, rows, begin, goals = asked(table, start, answers)
                self.answers(steps_of(rows, goals, begin), answered_within, table, start, answers)

    def test_too_many_pairs(self):
        self.answers(0, answered_within, line_table(400), (0,), (0,))
        self.raises(TooMany, LIMIT, answered_within, line_table(400), (0, 399), (1, 0))
        self.raises(TooMany, LIMIT, answered_within, cycles_table(201, 1, 0), (0, 100), (1, 0))

    def test_too_many_in_the_web_where_the_pairs_are_fewer(self):
        for (table, start), is_large in ((MOST_WEBS[1], False), (TOO_LARGE_WEBS[0], True), (TOO_LARGE_WEBS[1], True)):
            _, pairs, rows, begin, goals = asked(table, start, (0, 1))
            self.assertLess(len(pairs), 100)
            self.assertEqual(len(web_by_definition(rows, goals, begin)) > 400, is_large)
            if is_large:
                self.raises(TooMany, LIMIT, answered_within, table, start, (0, 1))
            else:
                self.answers(None, answered_within, table, start, (0, 1))


class TestUnknowablePairs(AnswerCase):

    def test_no_pair(self):
        self.answers((), unknowable_pairs, line_table(1))
        self.answers((), unknowable_pairs, line_table(9))

    def test_some_and_all(self):
        self.answers(((0, 1),), unknowable_pairs, ((((0, 2),),), (((0, 2),),), (((1, 2),),)))
        self.answers(((0, 1), (0, 2), (1, 2)), unknowable_pairs, cycles_table(2, 1, 0))
        self.answers(((0, 1),), unknowable_pairs, (((TOUCH, (0, 0)),), ((TOUCH, (1, 1)),)))

    def test_by_the_definition(self):
        many = set()
        for table, _ in VARIED:
            pairs = [
                pair for pair in combinations(range(len(table)), 2)
                if answered_within(table, pair, (0, 1)) is None]
            self.answers(tuple(pairs), unknowable_pairs, table)
            self.ascends(pairs)
            many.add(len(pairs))
        self.assertGreaterEqual(many, {0, 1, 2, 3})

    def test_twelve_worlds_and_thirteen(self):
        self.answers((), unknowable_pairs, line_table(12))
        self.raises(TooLarge, {"part": "worlds"}, unknowable_pairs, line_table(13))
        self.raises(TooLarge, {"part": "worlds"}, unknowable_pairs, line_table(400))
        table = cycles_table(5, 7, 0)
        self.answers(tuple(combinations(range(12), 2)), unknowable_pairs, table)

    def test_too_many_and_too_large_ahead_of_it(self):
        self.raises(TooMany, LIMIT, unknowable_pairs, LARGE_TWELVE)
        self.raises(TooLarge, {"part": "worlds"}, unknowable_pairs, LARGE_TWELVE + (LARGE_TWELVE[0],))


def shuffling_table(worlds):
    """By its commands the worlds change places in two ways, and with one reading for all of them; one leads to all."""
    everywhere = tuple((0, world) for world in range(worlds))
    table = []
    for world in range(worlds):
        swapped = {0: 1, 1: 0}.get(world, world)
        parted = everywhere[:worlds // 2] if world == 0 else ((0, world),)
        table.append((((0, (world + 1) % worlds),), ((0, swapped),), parted))
    return tuple(table)


# From two worlds one comes to very many sets of worlds.
LARGE_TWELVE = shuffling_table(12)


if __name__ == "__main__":
    unittest.main()
