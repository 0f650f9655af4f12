import unittest
from itertools import product

from doubtborne.errors import Misfit
from doubtborne.filtering import filtered, past
from doubtborne.tables import is_belief
from tests.answers import SMALL_TABLE, TOUCH, AnswerCase
from tests.sample_tables import VARIED, beliefs_of, line_table, runs_by_definition

# From the world 0 the reading 0 leads on to 1 and 2; of these only 1 has the reading 1, and only 2 the reading 2.
FORK = ((((0, 1), (0, 2)),), (((1, 1),),), ((TOUCH, (2, 2)),))


def histories(table, longest):
    """All histories of at most so many pairs."""
    pairs = list(product(range(len(table[0])), (-1, 0, 1)))
    return [history for size in range(longest + 1) for history in product(pairs, repeat=size)]


def first_misfit(table, start, history):
    """The number of the first pair up to which no run fits, or None."""
    for many in range(len(history)):
        if not runs_by_definition(table, start, history[:many + 1]):
            return many
    return None


def by_moments(runs):
    """The sets of the worlds of some runs, moment by moment."""
    return tuple(tuple(sorted(set(worlds))) for worlds in zip(*runs))


class TestFiltered(AnswerCase):

    def test_the_empty_history(self):
        for start in ((0,), (0, 1)):
            self.answers((start,), filtered, SMALL_TABLE, start, ())

    def test_one_pair(self):
        self.answers(((0,), (0, 1)), filtered, SMALL_TABLE, (0,), ((0, 0),))
        self.answers(((0, 1), (1,)), filtered, SMALL_TABLE, (0, 1), ((0, 1),))
        self.answers(((0,), (1, 2)), filtered, FORK, (0,), ((0, 0),))

    def test_many_pairs(self):
        history = ((0, 0), (0, 1), (0, 1), (1, 0), (1, 0))
        self.answers(((0,), (0, 1), (1,), (1,), (0,), (1,)), filtered, SMALL_TABLE, (0,), history)
        self.answers(((0,), (1, 2), (2,), (2,)), filtered, FORK, (0,), ((0, 0), (0, 2), (0, 2)))

    def test_a_long_history(self):
        table = line_table(300)
        history = tuple((0, world) for world in range(299))
        self.answers(tuple((world,) for world in range(300)), filtered, table, (0,), history)

    def test_misfit_at_the_first_pair(self):
        self.raises(Misfit, {"at": 0}, filtered, SMALL_TABLE, (0,), ((0, 1),))
        self.raises(Misfit, {"at": 0}, filtered, SMALL_TABLE, (0, 1), ((0, 7), (0, 1)))

    def test_misfit_at_a_later_pair(self):
        self.raises(Misfit, {"at": 1}, filtered, FORK, (0,), ((0, 0), (0, 0)))
        self.raises(Misfit, {"at": 2}, filtered, FORK, (0,), ((0, 0), (0, 1), (0, 2), (0, 1)))

    def test_the_reading_of_a_touch(self):
        self.raises(Misfit, {"at": 0}, filtered, SMALL_TABLE, (1,), ((1, -1),))
        self.raises(Misfit, {"at": 2}, filtered, FORK, (0,), ((0, 0), (0, 2), (0, -1)))


class TestPast(AnswerCase):

    def test_the_empty_history(self):
        for start in ((0,), (0, 1)):
            self.answers((start,), past, SMALL_TABLE, start, ())

    def test_one_pair(self):
        self.answers(((0,), (0, 1)), past, SMALL_TABLE, (0,), ((0, 0),))
        self.answers(((1,), (1,)), past, SMALL_TABLE, (0, 1), ((0, 1),))

    def test_a_later_reading_tells_of_an_earlier_world(self):
        self.answers(((0,), (1,), (1,)), past, FORK, (0,), ((0, 0), (0, 1)))
        self.answers(((0,), (2,), (2,)), past, FORK, (0,), ((0, 0), (0, 2)))

    def test_worlds_of_the_start_that_no_run_leaves(self):
        self.answers(((1, 2), (1, 2)), past, ((((1, 1),),), (((0, 1),),), (((0, 2),),)), (0, 1, 2), ((0, 0),))
        self.answers(((0,), (1, 2)), past, FORK, (0, 1, 2), ((0, 0),))

    def test_misfits(self):
        self.raises(Misfit, {"at": 0}, past, SMALL_TABLE, (0,), ((0, 1),))
        self.raises(Misfit, {"at": 2}, past, FORK, (0,), ((0, 0), (0, 1), (0, 2), (0, 1)))
        self.raises(Misfit, {"at": 0}, past, SMALL_TABLE, (1,), ((1, -1),))

    def test_a_misfit_that_is_seen_from_the_end_only(self):
        # Each pair alone may come, but not the third one behind the first two.
        self.raises(Misfit, {"at": 2}, past, FORK, (0, 1, 2), ((0, 0), (0, 2), (0, 1)))
        self.raises(Misfit, {"at": 1}, past, FORK, (0, 1, 2), ((0, 1), (0, 2), (0, 2)))

    def test_a_long_history(self):
        table = line_table(300)
        history = tuple((0, world) for world in range(299))
        self.answers(tuple((world,) for world in range(300)), past, table, (0, 5, 299), history)


class TestByTheDefinition(AnswerCase):

    def test_both(self):
        for table, _ in VARIED[::4]:
            for start in beliefs_of(table)[::3]:
                for history in histories(table, 3)[::5]:
                    self.both(table, start, history)

    def both(self, table, start, history):
        """Both functions answer as the runs tell, or raise the same error."""
        misfit = first_misfit(table, start, history)
        if misfit is not None:
            for function in (filtered, past):
                self.raises(Misfit, {"at": misfit}, function, table, start, history)
            return
        beliefs = tuple(
            by_moments(runs_by_definition(table, start, history[:many]))[-1] for many in range(len(history) + 1))
        self.answers(beliefs, filtered, table, start, history)
        expected = by_moments(runs_by_definition(table, start, history))
        self.answers(expected, past, table, start, history)
        for belief in beliefs + expected:
            self.says(True, is_belief, table, belief)


if __name__ == "__main__":
    unittest.main()
