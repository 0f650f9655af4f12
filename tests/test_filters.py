import unittest

from doubtborne.errors import Misfit
from doubtborne.filtering import filtered
from doubtborne.filters import Filter
from tests.answers import SMALL_TABLE, AnswerCase, is_plain
from tests.sample_tables import VARIED, beliefs_of, line_table
from tests.test_filtering import FORK, first_misfit, histories

HISTORY = ((0, 0), (0, 1), (1, 0), (0, 0))
BELIEFS = ((0,), (0, 1), (1,), (0,), (0, 1))


class OwnError(Exception):
    """An error that is none of the program's."""


def gone_along(history=HISTORY, start=(0,), table=SMALL_TABLE):
    """A filter that has gone a history pair by pair."""
    made = Filter(table, start)
    for command, reading in history:
        made.go_on(command, reading)
    return made


class FilterCase(AnswerCase):

    def stands(self, made, history, beliefs):
        """The filter has gone this history, by these beliefs."""
        for _ in range(2):
            self.assertEqual(made.present, beliefs[-1])
            self.assertEqual(made.gone, history)
            self.assertEqual(made.state, (history, beliefs))
            self.assertEqual(tuple(made.each_belief()), beliefs)
            self.assertTrue(is_plain(made.state))


class TestGoOn(FilterCase):

    def test_a_new_one(self):
        self.stands(Filter(SMALL_TABLE, (0,)), (), ((0,),))
        self.stands(Filter(SMALL_TABLE, (0, 1)), (), ((0, 1),))

    def test_going_on(self):
        made = Filter(SMALL_TABLE, (0,))
        for at, (command, reading) in enumerate(HISTORY):
            self.assertEqual(made.go_on(command, reading), BELIEFS[at + 1])
            self.stands(made, HISTORY[:at + 1], BELIEFS[:at + 2])

    def test_misfit_changes_nothing(self):
        for many in range(5):
            made = gone_along(HISTORY[:many])
            for command, reading in ((0, 7), (1, -1), (0, -1)):
                self.raises(Misfit, {"at": many}, made.go_on, command, reading)
                self.stands(made, HISTORY[:many], BELIEFS[:many + 1])

    def test_going_on_behind_a_misfit(self):
        made = gone_along(HISTORY[:2])
        self.raises(Misfit, {"at": 2}, made.go_on, 0, 0)
        self.assertEqual(made.go_on(1, 0), (0,))
        self.stands(made, HISTORY[:3], BELIEFS[:4])

    def test_several_filters_of_one_table(self):
        first, second = Filter(FORK, (0,)), Filter(FORK, (0,))
        first.go_on(0, 0)
        self.stands(second, (), ((0,),))
        second.go_on(0, 0)
        second.go_on(0, 2)
        self.stands(first, ((0, 0),), ((0,), (1, 2)))
        self.stands(second, ((0, 0), (0, 2)), ((0,), (1, 2), (2,)))

    def test_what_was_taken_is_kept(self):
        made = gone_along(HISTORY[:2])
        gone, state = made.gone, made.state
        made.go_on(*HISTORY[2])
        self.assertEqual(gone, HISTORY[:2])
        self.assertEqual(state, (HISTORY[:2], BELIEFS[:3]))

    def test_a_long_history(self):
        made = gone_along(tuple((0, world) for world in range(299)), (0,), line_table(300))
        self.assertEqual(made.present, (299,))
        self.assertEqual(len(made.gone), 299)

    def test_by_filtering(self):
        for table, _ in VARIED[::6]:
            for start in beliefs_of(table)[::5]:
                for history in histories(table, 2):
                    if first_misfit(table, start, history) is None:
                        self.stands(gone_along(history, start, table), history, filtered(table, start, history))


class TestEachBelief(FilterCase):

    def test_going_on_behind_the_first_one(self):
        made = gone_along(HISTORY[:2])
        walk = made.each_belief()
        self.assertEqual(next(walk), BELIEFS[0])
        made.go_on(*HISTORY[2])
        self.assertEqual(tuple(walk), BELIEFS[1:3])
        self.assertEqual(tuple(made.each_belief()), BELIEFS[:4])

    def test_going_back_behind_the_first_one(self):
        made = gone_along(HISTORY)
        walk = made.each_belief()
        next(walk)
        made.resume(gone_along(HISTORY[:1]).state)
        self.assertEqual(tuple(walk), BELIEFS[1:])

    def test_two_walks_at_once(self):
        made = gone_along(HISTORY)
        self.assertEqual(list(zip(made.each_belief(), made.each_belief())), list(zip(BELIEFS, BELIEFS)))

    def test_it_yields(self):
        walk = gone_along(HISTORY).each_belief()
        self.assertIs(iter(walk), walk)


class TestState(FilterCase):

    def test_another_filter_goes_on(self):
        for many in range(5):
            first, second = gone_along(HISTORY[:many]), Filter(SMALL_TABLE, (0,))
            second.state = first.state
            self.stands(second, HISTORY[:many], BELIEFS[:many + 1])
            for command, reading in HISTORY[many:]:
                self.assertEqual(second.go_on(command, reading), first.go_on(command, reading))
            self.stands(second, HISTORY, BELIEFS)

    def test_resume(self):
        first, second = gone_along(HISTORY[:3]), gone_along(HISTORY)
        self.assertIsNone(second.resume(first.state))
        self.stands(second, HISTORY[:3], BELIEFS[:4])
        second.go_on(*HISTORY[3])
        self.stands(second, HISTORY, BELIEFS)
        self.stands(first, HISTORY[:3], BELIEFS[:4])

    def test_misfits_count_on(self):
        made = Filter(SMALL_TABLE, (0,))
        made.state = gone_along(HISTORY).state
        self.raises(Misfit, {"at": 4}, made.go_on, 0, 7)


class TestTrial(FilterCase):

    def test_a_normal_end(self):
        made = gone_along(HISTORY[:2])
        with made.trial():
            made.go_on(*HISTORY[2])
            self.stands(made, HISTORY[:3], BELIEFS[:4])
        self.stands(made, HISTORY[:2], BELIEFS[:3])

    def test_an_end_by_misfit(self):
        made = gone_along(HISTORY[:2])
        with self.assertRaises(Misfit) as caught:
            with made.trial():
                made.go_on(*HISTORY[2])
                made.go_on(0, 7)
        self.assertEqual(caught.exception.at, 3)
        self.stands(made, HISTORY[:2], BELIEFS[:3])

    def test_an_end_by_another_error(self):
        made = gone_along(HISTORY[:2])
        for error in (OwnError, KeyError, KeyboardInterrupt):
            with self.assertRaises(error):
                with made.trial():
                    made.go_on(*HISTORY[2])
                    raise error()
            self.stands(made, HISTORY[:2], BELIEFS[:3])

    def test_an_end_by_leaving(self):
        made = gone_along(HISTORY[:2])
        for _ in range(2):
            with made.trial():
                made.go_on(*HISTORY[2])
                continue
        self.stands(made, HISTORY[:2], BELIEFS[:3])

    def test_one_inside_another_one(self):
        made = gone_along(HISTORY[:1])
        with made.trial():
            made.go_on(*HISTORY[1])
            with made.trial():
                made.go_on(*HISTORY[2])
                with made.trial():
                    made.go_on(*HISTORY[3])
                    self.stands(made, HISTORY, BELIEFS)
                self.stands(made, HISTORY[:3], BELIEFS[:4])
            self.stands(made, HISTORY[:2], BELIEFS[:3])
        self.stands(made, HISTORY[:1], BELIEFS[:2])

    def test_resuming_in_a_trial(self):
        made = gone_along(HISTORY[:1])
        with made.trial():
            made.resume(gone_along(HISTORY).state)
            self.stands(made, HISTORY, BELIEFS)
        self.stands(made, HISTORY[:1], BELIEFS[:2])

    def test_the_state_at_the_beginning_of_the_block(self):
        made = gone_along(HISTORY[:1])
        block = made.trial()
        made.go_on(*HISTORY[1])
        with block:
            made.go_on(*HISTORY[2])
        self.stands(made, HISTORY[:2], BELIEFS[:3])

    def test_trials_of_several_filters(self):
        first, second = gone_along(HISTORY[:1]), gone_along(HISTORY[:2])
        with first.trial(), second.trial():
            first.go_on(*HISTORY[1])
            second.go_on(*HISTORY[2])
        self.stands(first, HISTORY[:1], BELIEFS[:2])
        self.stands(second, HISTORY[:2], BELIEFS[:3])


class TestTried(FilterCase):

    def test_ordinary(self):
        made = gone_along(HISTORY[:1])
        for many in range(4):
            self.answers(BELIEFS[1 + many], made.tried, HISTORY[1:1 + many])
            self.stands(made, HISTORY[:1], BELIEFS[:2])

    def test_misfits_count_all_pairs(self):
        for many in range(5):
            made = gone_along(HISTORY[:many])
            self.raises(Misfit, {"at": many}, made.tried, ((0, 7),))
            self.raises(Misfit, {"at": 4}, made.tried, HISTORY[many:] + ((0, -1), (0, 0)))
            self.stands(made, HISTORY[:many], BELIEFS[:many + 1])

    def test_inside_a_trial(self):
        made = gone_along(HISTORY[:1])
        with made.trial():
            made.go_on(*HISTORY[1])
            self.answers(BELIEFS[4], made.tried, HISTORY[2:])
            self.raises(Misfit, {"at": 3}, made.tried, (HISTORY[2], (0, 7)))
            self.stands(made, HISTORY[:2], BELIEFS[:3])
        self.stands(made, HISTORY[:1], BELIEFS[:2])


class TestAlong(FilterCase):

    def test_the_empty_history(self):
        made = Filter.along(SMALL_TABLE, (0, 1), ())
        self.assertIs(type(made), Filter)
        self.stands(made, (), ((0, 1),))

    def test_a_history(self):
        for many in range(5):
            made = Filter.along(SMALL_TABLE, (0,), HISTORY[:many])
            self.stands(made, HISTORY[:many], BELIEFS[:many + 1])
        self.assertEqual(Filter.along(SMALL_TABLE, (0,), HISTORY[:2]).go_on(*HISTORY[2]), BELIEFS[3])

    def test_misfits(self):
        self.raises(Misfit, {"at": 0}, Filter.along, SMALL_TABLE, (0,), ((0, 1),))
        self.raises(Misfit, {"at": 2}, Filter.along, SMALL_TABLE, (0,), HISTORY[:2] + ((0, 7), (0, 0)))


class TestClass(FilterCase):

    def test_each_method_stands_in_the_body_of_the_class(self):
        for name in ("go_on", "each_belief", "resume", "trial", "tried", "along", "present", "gone", "state"):
            self.assertIn(name, vars(Filter))
        for name in ("present", "gone", "state"):
            self.assertIsInstance(vars(Filter)[name], property)
        self.assertIsInstance(vars(Filter)["along"], classmethod)
        self.assertIsNone(vars(Filter)["present"].fset)
        self.assertIsNotNone(vars(Filter)["state"].fset)


if __name__ == "__main__":
    unittest.main()
