import unittest
from itertools import product
from random import Random

from doubtborne.errors import IsKnown
from doubtborne.modelgoals import flags
from doubtborne.models import model_of
from doubtborne.twins import find_ring, judge_ring, known_within
from tests.answers import SMALL_TABLE, TOUCH, AnswerCase
from tests.sample_books import VARIED as BOOKS
from tests.sample_books import book
from tests.sample_tables import beliefs_of, line_table, made_table, runs_by_definition

def masked_table(times):
    """The world 0 stays, with the reading 0, or the fault strikes; it shows only behind so many steps."""
    rows = [(((0, 0), (0, 1)),)]
    rows += [(((0, world + 1),),) for world in range(1, times)]
    return tuple(rows) + ((((1, times),),),)


def flagged_from(first, worlds):
    """Flags of all worlds from this one on."""
    return (0,) * first + (1,) * (worlds - first)


def closed_flags(table, seed):
    """Some flags with which flagged worlds lead only to flagged ones."""
    dice = Random(seed)
    flagged = {world for world in range(len(table)) if dice.random() < 0.3}
    for _ in table:
        flagged |= {behind for world in flagged for pairs in table[world] for shown, behind in pairs if shown != -1}
    return tuple(int(world in flagged) for world in range(len(table)))


def late_twins(table, marked, start, most):
    """For histories of at most so many pairs, how many steps behind its first flag a run still has a twin."""
    found = set()
    pairs = sorted({(command, shown) for row in table for command, told in enumerate(row) for shown, _ in told})
    histories = [()]
    for size in range(most + 1):
        for history in histories:
            runs = runs_by_definition(table, start, history)
            if any(marked[run[-1]] == 0 for run in runs):
                found |= {
                    size - min(at for at, world in enumerate(run) if marked[world] == 1)
                    for run in runs if marked[run[-1]] == 1}
        histories = [
            history + (pair,) for history in histories for pair in pairs
            if pair[1] != -1 and runs_by_definition(table, start, history + (pair,))]
    return found


def right_by_definition(table, marked, start, ring):
    """Whether it is a twin ring: point 53, word for word."""
    history, run, twin, back = ring
    n = len(history)
    for told in (run, twin):
        if len(told) != n + 1 or told[0] not in start:
            return False
        for at, (command, reading) in enumerate(history):
            if command not in range(len(table[0])) or reading == -1:
                return False
            if (reading, told[at + 1]) not in table[told[at]][command]:
                return False
    return (
        0 <= back <= n - 1 and all(marked[world] == 1 for world in run[back:])
        and all(marked[world] == 0 for world in twin) and run[back] == run[n] and twin[back] == twin[n])


class TestKnownWithin(AnswerCase):

    def test_flags_all_0(self):
        for table in (SMALL_TABLE, line_table(4), made_table(3, 5, 2, 2)):
            for start in beliefs_of(table):
                self.answers(0, known_within, table, (0,) * len(table), start)

    def test_flags_all_1(self):
        for table in (SMALL_TABLE, line_table(4), made_table(3, 5, 2, 2)):
            for start in beliefs_of(table):
                self.answers(0, known_within, table, (1,) * len(table), start)

    def test_within_0_steps_since_it_shows_at_once(self):
        table = ((((0, 0), (1, 1)),), (((1, 1),),))
        self.answers(0, known_within, table, (0, 1), (0,))
        self.answers(0, known_within, table, (0, 1), (1,))

    def test_one_and_several(self):
        for times in range(1, 7):
            table = masked_table(times)
            self.answers(times, known_within, table, flagged_from(1, times + 1), (0,))

    def test_a_start_with_flagged_worlds(self):
        table = masked_table(4)
        self.answers(4, known_within, table, flagged_from(1, 5), (0, 1))
        self.answers(0, known_within, table, flagged_from(1, 5), (1, 2))
        self.answers(4, known_within, table, flagged_from(1, 5), (0, 4))
        # No run comes from the world 0 to the others any more.
        parted = ((((0, 0),),),) + table[1:]
        for first in range(1, 5):
            self.answers(5 - first, known_within, parted, flagged_from(1, 5), (0, first))
        self.answers(0, known_within, parted, flagged_from(1, 5), (0,))

    def test_none(self):
        table = ((((0, 0), (0, 1)),), (((0, 1),),))
        self.answers(None, known_within, table, (0, 1), (0,))
        self.answers(None, known_within, table, (0, 1), (0, 1))
        self.answers(0, known_within, table, (0, 1), (1,))

    def test_the_longest_of_several(self):
        # From 1 it shows at once, by way of 2 and 3 later.
        table = ((((0, 0), (0, 1), (0, 2)),), (((1, 1),),), (((0, 3),),), (((0, 1),),))
        self.answers(3, known_within, table, (0, 1, 1, 1), (0,))
        self.answers(1, known_within, table[:2] + (((((1, 1),),),) * 2), (0, 1, 1, 1), (0,))

    def test_each_command_can_be_given(self):
        # By the command 1 nothing is ever shown.
        table = ((((0, 0), (0, 1)), ((0, 0),)), (((1, 1),), ((0, 1),)))
        self.answers(None, known_within, table, (0, 1), (0,))
        shown = ((((0, 0), (0, 1)), ((0, 0),)), (((1, 1),), ((2, 1),)))
        self.answers(1, known_within, shown, (0, 1), (0,))

    def test_commands_that_may_touch(self):
        table = ((((0, 0), (0, 1)), (TOUCH, (0, 0))), (((1, 1),), (TOUCH, (0, 1))))
        self.answers(None, known_within, table, (0, 1), (0,))
        # What is a touch does not count.
        table = ((((0, 0), (0, 1)), (TOUCH, (0, 0))), (((1, 1),), (TOUCH,)))
        self.answers(1, known_within, table, (0, 1), (0,))
        table = (((TOUCH, (0, 0), (0, 1)),), ((TOUCH,),))
        self.answers(1, known_within, table, (0, 1), (0,))

    def test_touches_of_both_are_no_step(self):
        # The world 0 has the flag, and by the command 1 both touch.
        table = ((((1, 0),), (TOUCH,)), (((0, 0), (0, 1)), (TOUCH,)))
        self.answers(1, known_within, table, (1, 0), (1,))
        self.answers(1, known_within, table, (1, 0), (0, 1))
        self.raises(IsKnown, {}, find_ring, table, (1, 0), (0, 1))

    def test_a_twin_that_becomes_flagged_is_none(self):
        table = ((((0, 1), (0, 2)),), (((0, 2),),), (((0, 2),),))
        self.answers(1, known_within, table, (0, 0, 1), (0,))
        self.answers(0, known_within, table, (0, 0, 1), (1,))

    def test_by_the_definition(self):
        found = set()
        for seed in range(60):
            table = made_table(seed, 2 + seed % 3, 1 + seed % 2, 2)
            marked = closed_flags(table, seed)
            for start in beliefs_of(table)[::2]:
                told = known_within(table, marked, start)
                self.answers(told, known_within, table, marked, start)
                found.add(told)
                late = late_twins(table, marked, start, 4)
                if told is None:
                    self.assertGreaterEqual(late, {0, 1})
                else:
                    self.assertTrue(all(steps < told for steps in late))
                    self.assertTrue(told == 0 or told - 1 in late)
        self.assertGreaterEqual(found, {None, 0, 1})

    def test_books(self):
        # A wild sensor can show what is right for ever, a dead bump sensor shows when it should not.
        made = book(plan=(".#",), sensors=(("bump",),), faults=(("wild", 0), ("dead", 0)), most=1)
        model = model_of(made)
        self.answers(None, known_within, model[3], flags(model, 0), model[4])
        for made in BOOKS[3:]:
            model = model_of(made)
            for fault in range(len(made[6])):
                marked = flags(model, fault)
                self.answers(None, known_within, model[3], marked, model[4])
                ring = find_ring(model[3], marked, model[4])
                self.assertTrue(right_by_definition(model[3], marked, model[4], ring))

    def test_many_worlds(self):
        self.answers(399, known_within, masked_table(399), flagged_from(1, 400), (0,))


class TestFindRing(AnswerCase):

    def test_just_one_is_told(self):
        many = 0
        for seed in range(90):
            table = made_table(seed, 2 + seed % 5, 1 + seed % 2, 2)
            marked = closed_flags(table, seed)
            for start in beliefs_of(table)[::3]:
                if known_within(table, marked, start) is not None:
                    self.raises(IsKnown, {}, find_ring, table, marked, start)
                    continue
                many += 1
                ring = find_ring(table, marked, start)
                self.answers(ring, find_ring, table, marked, start)
                self.assertTrue(right_by_definition(table, marked, start, ring))
                self.says(True, judge_ring, table, marked, start, ring)
        self.assertGreater(many, 30)

    def test_ordinary(self):
        self.raises(IsKnown, {}, find_ring, SMALL_TABLE, (0, 0), (0, 1))
        self.raises(IsKnown, {}, find_ring, masked_table(6), flagged_from(1, 7), (0,))
        table = ((((0, 0), (0, 1)),), (((0, 1),),))
        self.says(True, judge_ring, table, (0, 1), (0,), find_ring(table, (0, 1), (0,)))

    def test_a_long_round(self):
        # The run goes round by three worlds, and the twin by four.
        table = tuple((((0, (world + 1) % 4),),) for world in range(4)) + tuple(
            (((0, 4 + (world + 1) % 3),),) for world in range(3))
        ring = find_ring(table, flagged_from(4, 7), (0, 4))
        self.says(True, judge_ring, table, flagged_from(4, 7), (0, 4), ring)
        self.assertEqual(len(ring[0]) - ring[3], 12)


# The fault may strike in the world 0; behind it the worlds 2 and 3 look like 0 and 1.
TABLE = (
    (((0, 1), (0, 2)), (TOUCH, (0, 0))), (((1, 0),), ((1, 1),)), (((1, 3),), ((1, 2),)), (((0, 2),), (TOUCH, (0, 3))))
FLAGS = (0, 0, 1, 1)
HISTORY = ((0, 0), (0, 1), (0, 0))
RING = (HISTORY, (0, 2, 3, 2), (0, 1, 0, 1), 1)


class TestJudgeRing(AnswerCase):

    def judges(self, expected, ring, start=(0,), marked=FLAGS):
        self.says(expected, judge_ring, TABLE, marked, start, ring)
        self.assertIs(right_by_definition(TABLE, marked, start, ring), expected)

    def spoilt(self, at, part):
        """The ring with another part is not right."""
        self.judges(False, RING[:at] + (part,) + RING[at + 1:])

    def test_right_ones(self):
        self.judges(True, RING)
        self.judges(True, RING, (0, 3))
        self.judges(True, (HISTORY + HISTORY[1:], RING[1] + (3, 2), RING[2] + (0, 1), 1))
        self.judges(True, (HISTORY + HISTORY[1:], RING[1] + (3, 2), RING[2] + (0, 1), 3))
        self.judges(True, (((0, 0), (1, 1)), (0, 2, 2), (0, 1, 1), 1))
        self.judges(True, (((0, 0), (0, 1)), (3, 2, 3), (0, 1, 0), 0), (0, 3))
        self.judges(True, (((1, 0),), (3, 3), (0, 0), 0), (0, 3))

    def test_lengths(self):
        for at in (1, 2):
            for part in (RING[at][:-1], RING[at][1:], RING[at] + RING[at][-1:], RING[at] + (0,), ()):
                self.spoilt(at, part)
        self.spoilt(0, HISTORY[:-1])
        self.spoilt(0, HISTORY + HISTORY[:1])

    def test_an_empty_history(self):
        self.judges(False, ((), (3,), (0,), 0), (0, 3))
        self.judges(False, ((), (), (), 0))
        self.judges(False, ((), (2,), (0,), -1), (0, 2))

    def test_that_does_not_begin_in_the_start(self):
        self.judges(False, RING, (3,))
        self.judges(False, (((0, 0), (0, 1)), (3, 2, 3), (0, 1, 0), 0), (0,))
        self.judges(False, (((0, 0), (0, 1)), (3, 2, 3), (0, 1, 0), 0), (3,))

    def test_that_does_not_fit(self):
        for history in (((0, 0), (0, 0), (0, 0)), ((1, 0), (0, 1), (0, 0)), ((0, 0), (1, 1), (0, 0))):
            self.spoilt(0, history)
        self.spoilt(1, (0, 2, 2, 2))
        self.spoilt(2, (0, 1, 1, 1))

    def test_a_reading_or_a_command_that_is_none(self):
        for pair in ((0, -1), (0, 7), (-1, 0), (2, 0), (1000, 0), (0, 1000), (0, -1000), (-2, 0)):
            for at in range(3):
                self.spoilt(0, HISTORY[:at] + (pair,) + HISTORY[at + 1:])
        self.judges(False, (((1, -1),), (3, -1), (0, -1), 0), (0, 3))
        self.judges(False, (((0, 0), (1, -1), (0, 0)), (0, 2, -1, 2), (0, 1, -1, 1), 1))

    def test_back(self):
        for back in (-1, -2, -3, 0, 2, 3, 4, 1000, -1000):
            self.spoilt(3, back)
        self.judges(False, (((1, 0),), (3, 3), (0, 0), 1), (0, 3))
        self.judges(False, (((1, 0),), (3, 3), (0, 0), -1), (0, 3))

    def test_flags(self):
        self.judges(False, RING, marked=(0, 0, 0, 1))
        self.judges(False, RING, marked=(0, 0, 1, 0))
        self.judges(False, RING, marked=(0, 1, 1, 1))
        self.judges(False, RING, marked=(1, 0, 1, 1))
        self.judges(False, (HISTORY, RING[2], RING[1], 1))
        self.judges(False, (HISTORY, RING[1], RING[1], 1))
        self.judges(False, (HISTORY, RING[2], RING[2], 1))

    def test_a_world_that_is_not_there(self):
        for world in (-1, 4, 1000, -1000, -2):
            for at in (1, 2):
                for place in range(4):
                    self.spoilt(at, RING[at][:place] + (world,) + RING[at][place + 1:])

    def test_ends_that_are_not_equal(self):
        self.judges(False, (((0, 0), (0, 1)), (0, 2, 3), (0, 1, 1), 1))
        self.judges(False, (((0, 0), (1, 1), (0, 1)), (0, 2, 2, 3), (0, 1, 1, 0), 1))
        # Just one of the two comes round.
        table = ((((0, 1),),), (((0, 0),),), (((0, 2),),), (((0, 2),),))
        for ring, expected in (
                ((((0, 0),) * 2, (2, 2, 2), (0, 1, 0), 0), True), ((((0, 0),), (2, 2), (0, 1), 0), False),
                ((((0, 0),) * 2, (3, 2, 2), (0, 1, 0), 0), False), ((((0, 0),) * 2, (3, 2, 2), (0, 1, 0), 1), False),
                ((((0, 0),) * 3, (3, 2, 2, 2), (0, 1, 0, 1), 1), True)):
            self.says(expected, judge_ring, table, (0, 0, 1, 1), (0, 2, 3), ring)

    def test_changed_ones_by_the_definition(self):
        values = (-1, 0, 1, 2, 3, 4, 5)
        for at in (1, 2):
            for place, world in product(range(4), values):
                part = RING[at][:place] + (world,) + RING[at][place + 1:]
                ring = RING[:at] + (part,) + RING[at + 1:]
                self.assertIs(judge_ring(TABLE, FLAGS, (0,), ring), right_by_definition(TABLE, FLAGS, (0,), ring))
        for place, command, reading in product(range(3), values, values):
            ring = (HISTORY[:place] + ((command, reading),) + HISTORY[place + 1:],) + RING[1:]
            self.assertIs(judge_ring(TABLE, FLAGS, (0,), ring), right_by_definition(TABLE, FLAGS, (0,), ring))


if __name__ == "__main__":
    unittest.main()
