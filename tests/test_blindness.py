import unittest
from itertools import product

from doubtborne.blindness import blind
from doubtborne.errors import TooMany
from tests.answers import SMALL_TABLE, TOUCH, AnswerCase
from tests.sample_tables import (
    MOST_WEBS, TOO_LARGE_WEBS, VARIED, beliefs_of, cycles_table, ended_by_definition, line_table, made_table,
    moves_of, with_short_cut)

LIMIT = {"limit": 400}
# By the command 0 both worlds of the start come to the world 2, by 1 to 3, and the goal is behind both.
TWO_WAYS = (
    (((0, 2),), ((0, 3),)), (((1, 2),), ((1, 3),)), (((0, 4),), ((0, 2),)), (((0, 4),), ((0, 4),)),
    (((0, 4),), ((0, 4),)))


def led_to(table, worlds, command):
    """The set to which a command leads, or None if it may touch."""
    pairs = [pair for world in worlds for pair in table[world][command]]
    return None if TOUCH in pairs else tuple(sorted({behind for _, behind in pairs}))


def right_by_definition(table, goals, start, commands):
    """Whether a tuple of commands is right blind: point 43, word for word."""
    worlds = start
    for command in commands:
        worlds = led_to(table, worlds, command)
        if worlds is None:
            return False
    return ended_by_definition(goals, worlds)


def blind_by_definition(table, goals, start, most):
    """The first shortest right tuple of at most so many commands, or None."""
    for size in range(most + 1):
        for commands in product(range(len(table[0])), repeat=size):
            if right_by_definition(table, goals, start, commands):
                return commands
    return None


def sets_by_definition(table, goals, start):
    """All sets to which commands can lead, as a set."""
    found = {start}
    waiting = [start]
    while waiting:
        worlds = waiting.pop()
        if not ended_by_definition(goals, worlds):
            for command in range(len(table[0])):
                other = led_to(table, worlds, command)
                if other is not None and other not in found:
                    found.add(other)
                    waiting.append(other)
    return found


class TestBlind(AnswerCase):

    def test_an_ended_start(self):
        self.answers((), blind, SMALL_TABLE, ((1,),), (1,))
        self.answers((), blind, line_table(4), ((1, 2), (0,)), (2,))

    def test_one_command(self):
        self.answers((1,), blind, SMALL_TABLE, ((1,),), (0,))
        self.answers((0,), blind, line_table(4), ((3,),), (2,))
        self.answers((0,), blind, line_table(4), ((3,),), (2, 3))

    def test_several(self):
        for steps in range(6):
            self.answers((0,) * steps, blind, line_table(6), ((5,),), (5 - steps,))
            self.answers((0,) * steps, blind, line_table(6), ((5,),), tuple(range(5 - steps, 6)))

    def test_whatever_is_read(self):
        self.answers((0, 0), blind, TWO_WAYS, ((4,),), (0, 1))

    def test_the_first_one_of_several_shortest_ones(self):
        self.answers((0, 0), blind, TWO_WAYS, ((4,),), (0,))
        self.answers((0, 0), blind, TWO_WAYS, ((4,),), (1,))
        swapped = tuple((row[1], row[0]) for row in TWO_WAYS)
        self.answers((0, 0), blind, swapped, ((4,),), (0, 1))
        longer = TWO_WAYS[:2] + ((((0, 2),), ((0, 2),)),) + TWO_WAYS[3:]
        self.answers((1, 0), blind, longer, ((4,),), (0, 1))

    def test_none(self):
        self.answers(None, blind, line_table(4), (), (0,))
        self.answers(None, blind, line_table(4), ((2,),), (3,))
        self.answers(None, blind, SMALL_TABLE, ((1,),), (0, 1))
        self.answers(None, blind, (((TOUCH,),),), (), (0,))

    def test_borne_but_not_blind(self):
        # What is read tells which of the two commands does not touch.
        table = (
            (((0, 1), (1, 2)), (TOUCH,)), (((0, 3),), (TOUCH,)), ((TOUCH,), ((0, 3),)), (((0, 3),), ((0, 3),)))
        self.answers(None, blind, table, ((3,),), (0,))
        self.answers((0,), blind, table, ((3,),), (1,))
        self.answers((1,), blind, table, ((3,),), (2,))

    def test_a_command_that_may_touch_from_a_set_to_which_those_ahead_of_it_lead(self):
        table = (
            (((0, 1), (1, 2)), ((0, 1),)), (((0, 3),), ((0, 1),)), ((TOUCH, (0, 3)), ((0, 2),)),
            (((0, 3),), ((0, 3),)))
        self.answers((1, 0), blind, table, ((3,),), (0,))
        self.answers(None, blind, table, ((3,),), (1, 2))
        self.answers((0,), blind, table, ((3,),), (1,))

    def test_by_the_definition(self):
        found = set()
        for table, goals in VARIED + [(made_table(seed, 6, 2, 2), ((0, 1), (2, 3, 4))) for seed in range(100, 130)]:
            for start in beliefs_of(table):
                expected = blind_by_definition(table, goals, start, 5)
                answer = blind(table, goals, start)
                self.answers(answer, blind, table, goals, start)
                if expected is None and answer is not None:
                    self.assertGreater(len(answer), 5)
                    self.assertTrue(right_by_definition(table, goals, start, answer))
                else:
                    self.assertEqual(answer, expected)
                found.add(None if answer is None else len(answer))
        self.assertGreaterEqual(found, {None, 0, 1, 2, 3})

    def test_exactly_400_and_more(self):
        for table, start in MOST_WEBS:
            self.assertEqual(len(sets_by_definition(table, (), start)), 400)
            self.answers(None, blind, table, (), start)
        self.answers((0,) * 399, blind, line_table(400), ((399,),), (0,))
        for (table, start), many in zip(TOO_LARGE_WEBS, (401, 420)):
            self.assertEqual(len(sets_by_definition(table, (), start)), many)
            self.raises(TooMany, LIMIT, blind, table, (), start)

    def test_too_many_also_where_a_right_tuple_is_short(self):
        for table, start in TOO_LARGE_WEBS:
            last = (len(table) - 1,)
            self.assertTrue(right_by_definition(with_short_cut(table), (last,), start, (1,)))
            self.raises(TooMany, LIMIT, blind, with_short_cut(table), (last,), start)

    def test_an_ended_set_is_not_left(self):
        for table, start in TOO_LARGE_WEBS:
            self.answers((), blind, table, (start,), start)
            behind = moves_of(table, start)[0][0]
            self.answers((0,), blind, table, (behind,), start)

    def test_a_command_that_may_touch_is_not_given(self):
        # Behind the touch there would be far more than 400 sets.
        table = cycles_table(20, 21, 0)
        touching = table[:5] + ((((TOUCH,) + table[5][0]),),) + table[6:]
        self.assertEqual(len(sets_by_definition(touching, (), (0, 20))), 6)
        self.answers(None, blind, touching, (), (0, 20))


if __name__ == "__main__":
    unittest.main()
