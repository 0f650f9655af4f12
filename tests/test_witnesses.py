import unittest
from itertools import product

from doubtborne.witnesses import doubted, judge_run, witness
from tests.answers import SMALL_TABLE, TOUCH, AnswerCase, subsets
from tests.sample_tables import VARIED, beliefs_of, line_table, runs_by_definition
from tests.test_filtering import FORK, histories

# A touch pair beside an outcome, and a touch alone.
TOUCHY = (((TOUCH, (0, 0), (1, 1)), (TOUCH,)), (((0, 0),), ((1, 1),)))


def fits_but_for(table, start, history, numbers):
    """True if some run fits but for the pairs with these numbers."""
    worlds = set(start)
    for at, (command, reading) in enumerate(history):
        worlds = {
            behind for world in worlds for shown, behind in table[world][command]
            if shown != -1 and (at in numbers or shown == reading)}
    return bool(worlds)


def doubted_by_definition(table, start, history):
    """The first smallest set but for which some run fits, or None."""
    found = [some for some in subsets(range(len(history))) if fits_but_for(table, start, history, some)]
    return min(found, key=lambda some: (len(some), some)) if found else None


class TestWitness(AnswerCase):

    def test_the_empty_history(self):
        self.answers((0,), witness, SMALL_TABLE, (0, 1), (), 0)
        self.answers((1,), witness, SMALL_TABLE, (0, 1), (), 1)
        self.answers(None, witness, SMALL_TABLE, (0,), (), 1)

    def test_the_first_one_of_several_runs(self):
        table = ((((0, 0), (0, 1), (0, 2)),), (((0, 1), (0, 2)),), (((0, 2),),))
        self.answers((0, 0, 0, 2), witness, table, (0, 1), ((0, 0),) * 3, 2)
        self.answers((0, 0, 1), witness, table, (0, 1, 2), ((0, 0),) * 2, 1)
        self.answers((1, 1, 2), witness, table, (1, 2), ((0, 0),) * 2, 2)

    def test_a_later_pair_rules_the_least_world_out(self):
        table = ((((0, 1), (0, 2)),), (((1, 1),),), (((2, 3),),), (((2, 3),),))
        self.answers((0, 2, 3), witness, table, (0,), ((0, 0), (0, 2)), 3)
        self.answers((0, 1, 1), witness, table, (0,), ((0, 0), (0, 1)), 1)

    def test_a_later_pair_rules_the_least_start_out(self):
        self.answers((1, 1), witness, SMALL_TABLE, (0, 1), ((0, 1),), 1)

    def test_a_world_that_none_ends_in(self):
        self.answers(None, witness, FORK, (0,), ((0, 0), (0, 1)), 2)
        self.answers(None, witness, FORK, (0,), ((0, 0),), 0)

    def test_a_history_that_does_not_fit(self):
        for world in range(3):
            self.answers(None, witness, FORK, (0, 1, 2), ((0, 0), (0, 0)), world)
            self.answers(None, witness, FORK, (0, 1, 2), ((0, 2), (0, -1)), world)

    def test_a_long_history(self):
        history = tuple((0, world) for world in range(299))
        self.answers(tuple(range(300)), witness, line_table(300), (0, 7), history, 299)

    def test_by_the_definition(self):
        for table, _ in VARIED[::4]:
            for start, history in product(beliefs_of(table)[::3], histories(table, 3)[::7]):
                runs = runs_by_definition(table, start, history)
                for world in range(len(table)):
                    expected = next((run for run in runs if run[-1] == world), None)
                    self.answers(expected, witness, table, start, history, world)


class TestJudgeRun(AnswerCase):

    HISTORY = ((0, 0), (0, 1), (1, 0))
    RUN = (0, 1, 1, 0)

    def judges(self, expected, run):
        self.says(expected, judge_run, SMALL_TABLE, (0,), self.HISTORY, run)

    def test_right_ones(self):
        self.judges(True, self.RUN)
        self.says(True, judge_run, SMALL_TABLE, (0, 1), (), (0,))
        self.says(True, judge_run, SMALL_TABLE, (0, 1), (), (1,))
        self.says(True, judge_run, line_table(300), (0,), tuple((0, world) for world in range(299)), tuple(range(300)))

    def test_too_short_and_too_long(self):
        for many in range(4):
            self.judges(False, self.RUN[:many])
        self.judges(False, self.RUN + (0,))
        self.judges(False, self.RUN + (1, 1))
        self.says(False, judge_run, SMALL_TABLE, (0, 1), (), ())
        self.says(False, judge_run, SMALL_TABLE, (0, 1), (), (0, 0))

    def test_outside_of_the_start(self):
        self.says(False, judge_run, SMALL_TABLE, (0,), (), (1,))
        self.says(False, judge_run, SMALL_TABLE, (1,), self.HISTORY, self.RUN)
        self.says(True, judge_run, SMALL_TABLE, (1,), ((0, 1),), (1, 1))
        self.says(False, judge_run, SMALL_TABLE, (0,), ((0, 1),), (1, 1))

    def test_another_reading(self):
        self.says(False, judge_run, SMALL_TABLE, (0,), ((0, 1),), (0, 1))
        self.says(False, judge_run, FORK, (0,), ((0, 0), (0, 2)), (0, 1, 1))
        self.says(True, judge_run, FORK, (0,), ((0, 0), (0, 1)), (0, 1, 1))

    def test_another_command(self):
        self.says(True, judge_run, SMALL_TABLE, (0,), ((0, 0),), (0, 0))
        self.says(False, judge_run, SMALL_TABLE, (0,), ((1, 0),), (0, 0))

    def test_the_touch_pair(self):
        self.says(False, judge_run, TOUCHY, (0,), ((0, -1),), (0, -1))
        self.says(False, judge_run, TOUCHY, (0,), ((1, -1),), (0, -1))
        self.says(False, judge_run, TOUCHY, (0,), ((0, -1), (0, 0)), (0, -1, 0))
        self.says(False, judge_run, TOUCHY, (0,), ((0, -1),), (0, 0))
        self.says(False, judge_run, TOUCHY, (0,), ((0, 0),), (0, -1))

    def test_worlds_that_are_not_there(self):
        for at, world in product(range(4), (-1, 2, -2, 1000, -1000)):
            self.judges(False, self.RUN[:at] + (world,) + self.RUN[at + 1:])

    def test_all_short_runs(self):
        for table, _ in VARIED[::6]:
            for start, history in product(beliefs_of(table)[::4], histories(table, 2)[::3]):
                runs = runs_by_definition(table, start, history)
                for run in product(range(-1, len(table) + 1), repeat=len(history) + 1):
                    self.assertIs(judge_run(table, start, history, run), run in runs)


class TestDoubted(AnswerCase):

    def test_the_empty_set(self):
        self.answers((), doubted, SMALL_TABLE, (0,), ())
        self.answers((), doubted, SMALL_TABLE, (0,), ((0, 0), (0, 1), (1, 0)))

    def test_one_pair(self):
        self.answers((0,), doubted, SMALL_TABLE, (1,), ((0, 0),))
        self.answers((1,), doubted, SMALL_TABLE, (0,), ((1, 0), (0, 5), (0, 1)))
        self.answers((2,), doubted, SMALL_TABLE, (0,), ((1, 0), (0, 1), (0, -1)))

    def test_several_pairs(self):
        self.answers((0, 2), doubted, SMALL_TABLE, (1,), ((0, 0), (0, 1), (0, 0)))
        self.answers((0, 1, 2), doubted, SMALL_TABLE, (0, 1), ((0, 7), (1, 7), (0, 7)))

    def test_the_first_one_of_the_smallest_ones(self):
        self.answers((0,), doubted, FORK, (0, 1, 2), ((0, 1), (0, 2)))
        self.answers((1,), doubted, FORK, (0, 1, 2), ((0, 2), (0, 1), (0, 2)))
        self.answers((0, 2), doubted, FORK, (1, 2), ((0, 1), (0, 2), (0, 1), (0, 2)))

    def test_a_smaller_set_comes_ahead_of_a_first_one(self):
        self.answers((2,), doubted, FORK, (1, 2), ((0, 1), (0, 1), (0, 2)))
        self.answers((4,), doubted, FORK, (1, 2), ((0, 1),) * 4 + ((0, 2),))
        self.answers((0,), doubted, FORK, (1, 2), ((0, 1),) + ((0, 2),) * 4)

    def test_a_command_that_can_only_touch(self):
        self.answers(None, doubted, TOUCHY, (0,), ((1, 1),))
        self.answers(None, doubted, TOUCHY, (0,), ((1, -1),))
        self.answers((), doubted, TOUCHY, (0, 1), ((1, 1),))
        self.answers((0,), doubted, TOUCHY, (0, 1), ((0, 2), (1, 1)))

    def test_a_touch_is_no_reading(self):
        self.answers((0,), doubted, TOUCHY, (0,), ((0, -1),))

    def test_a_long_history(self):
        history = tuple((0, world if world % 100 else 399) for world in range(299))
        self.answers((0, 100, 200), doubted, line_table(300), (0,), history)

    def test_by_the_definition(self):
        for table, _ in VARIED[::3]:
            for start, history in product(beliefs_of(table)[::4], histories(table, 3)[::7]):
                self.answers(doubted_by_definition(table, start, history), doubted, table, start, history)

    def test_longer_ones_by_the_definition(self):
        for table, _ in VARIED[2::5]:
            start = tuple(range(len(table)))
            for seed in range(8):
                history = tuple(((seed * at) % len(table[0]), (seed + at * at) % 3) for at in range(8))
                self.answers(doubted_by_definition(table, start, history), doubted, table, start, history)


if __name__ == "__main__":
    unittest.main()
