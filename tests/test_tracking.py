import unittest
from itertools import product

from doubtborne.errors import Misfit
from doubtborne.sensors import sensor_values
from doubtborne.tracking import track, tracked
from tests.answers import AnswerCase, every_mover, is_plain, runs_of

# Six posts in a row of six cells, each one leading to its neighbours and to itself.
ROW = ("mover", (0, 1, 2, 3, 4, 5), ((0, 1), (0, 1, 2), (1, 2, 3), (2, 3, 4), (3, 4, 5), (4, 5)))
FORK = ("mover", (0, 1, 1, 3), ((1, 2), (3,), (0, 3), (3,)))
SHARP = ("near", 0, 0)
VAGUE = ("near", 0, 2)
WIDE = ("near", 1, 1)


def fitting_runs(width, mover, posts, sensor, cells, values):
    """All tuples of posts that fit, one by one."""
    plan = ("." * width,) * 8
    def fits(run):
        return all(
            value in sensor_values(plan, (), sensor, None, cell, (mover[1][post],), 0)
            for cell, value, post in zip(cells, values, run[1:]))
    return [run for run in runs_of(mover, posts, len(values)) if fits(run)]


def tracked_by_definition(width, mover, posts, sensor, cells, values):
    """The sets behind each number of values, or the number of the first value that does not fit."""
    found = []
    for many in range(len(values) + 1):
        runs = fitting_runs(width, mover, posts, sensor, cells[:many], values[:many])
        if not runs:
            return many - 1
        found.append(tuple(sorted({run[-1] for run in runs})))
    return tuple(found)


class TestTracked(AnswerCase):

    def test_no_values(self):
        self.answers(((2, 4),), tracked, 6, ROW, (2, 4), SHARP, (), ())

    def test_one_value(self):
        self.answers(((2,), (3,)), tracked, 6, ROW, (2,), SHARP, (3,), (1,))
        self.answers(((2,), (1, 2)), tracked, 6, ROW, (2,), SHARP, (3,), (0,))

    def test_each_value_belongs_to_the_cell_of_its_step(self):
        self.answers(((2,), (3,), (4,), (5,)), tracked, 6, ROW, (2,), SHARP, (3, 4, 5), (1, 1, 1))
        self.answers(((2,), (1, 2), (2,)), tracked, 6, ROW, (2,), SHARP, (3, 2), (0, 1))

    def test_the_value_is_looked_at_behind_the_move(self):
        self.answers(((0,), (1, 2)), tracked, 6, FORK, (0,), SHARP, (0,), (0,))
        self.raises(Misfit, {"at": 0}, tracked, 6, FORK, (0,), SHARP, (0,), (1,))

    def test_earlier_sets_are_not_cut_by_later_values(self):
        self.answers(((0,), (1, 2), (0,)), tracked, 6, FORK, (0,), SHARP, (1, 0), (1, 1))

    def test_inner_and_outer(self):
        self.answers(((2,), (3,)), tracked, 6, ROW, (2,), WIDE, (4,), (1,))
        self.answers(((2,), (1, 2)), tracked, 6, ROW, (2,), WIDE, (4,), (0,))
        self.answers(((2,), (1, 2, 3)), tracked, 6, ROW, (2,), VAGUE, (1,), (1,))
        self.answers(((2,), (2, 3)), tracked, 6, ROW, (2,), VAGUE, (1,), (0,))

    def test_the_width_counts(self):
        self.answers(((0,), (1,)), tracked, 8, ROW, (0,), WIDE, (9,), (1,))
        self.raises(Misfit, {"at": 0}, tracked, 4, ROW, (0,), WIDE, (9,), (1,))
        self.answers(((4,), (5,)), tracked, 4, ROW, (4,), WIDE, (9,), (1,))
        self.answers(((0,), (1,)), tracked, 1, ROW, (0,), WIDE, (2,), (1,))

    def test_all_posts_of_the_start_count(self):
        self.answers(((0, 5), (0, 1, 5)), tracked, 6, ROW, (0, 5), SHARP, (4,), (0,))

    def test_two_posts_with_one_cell(self):
        self.answers(((0,), (1, 2), (0, 3)), tracked, 6, FORK, (0,), SHARP, (1, 5), (1, 0))

    def test_cells_outside_of_small_plans(self):
        mover = ("mover", (63, 0), ((0, 1), (0, 1)))
        self.answers(((0, 1), (0,)), tracked, 8, mover, (0, 1), SHARP, (63,), (1,))
        self.answers(((0, 1), (1,)), tracked, 8, mover, (0, 1), ("near", 13, 13), (63,), (0,))

    def test_misfit_of_the_first_value(self):
        self.raises(Misfit, {"at": 0}, tracked, 6, ROW, (0,), SHARP, (5,), (1,))
        self.raises(Misfit, {"at": 0}, tracked, 6, ROW, (0,), SHARP, (5, 5, 5), (1, 1, 1))

    def test_misfit_of_a_later_value(self):
        self.raises(Misfit, {"at": 1}, tracked, 6, ROW, (2,), SHARP, (3, 5), (1, 1))
        self.raises(Misfit, {"at": 2}, tracked, 6, ROW, (2,), SHARP, (3, 4, 2, 0), (1, 1, 1, 1))

    def test_a_value_that_fits_only_without_the_earlier_ones(self):
        self.answers(((0,), (0, 1), (0, 1, 2)), tracked, 6, ROW, (0,), SHARP, (5, 5), (0, 0))
        self.raises(Misfit, {"at": 1}, tracked, 6, ROW, (0,), SHARP, (0, 2), (1, 1))

    def test_60_values(self):
        self.answers(((0,),) * 61, tracked, 6, ROW, (0,), SHARP, (0,) * 60, (1,) * 60)
        found = tracked(6, ROW, (0,), SHARP, (0,) * 60, (1,) + (0, 1) * 29 + (0,))
        self.assertEqual(found, ((0,), (0,)) + ((1,), (0,)) * 29 + ((1,),))
        self.raises(Misfit, {"at": 59}, tracked, 6, ROW, (0,), SHARP, (0,) * 59 + (5,), (1,) * 60)

    def test_many_by_the_definition(self):
        for mover in every_mover((0, 1, 4))[::9]:
            for sensor, values in product((SHARP, VAGUE, WIDE), product((0, 1), repeat=3)):
                expected = tracked_by_definition(3, mover, (0, 2), sensor, (0, 4, 1), values)
                arguments = (3, mover, (0, 2), sensor, (0, 4, 1), values)
                if isinstance(expected, int):
                    self.raises(Misfit, {"at": expected}, tracked, *arguments)
                else:
                    self.answers(expected, tracked, *arguments)


class TestTrack(AnswerCase):

    def test_no_values(self):
        self.answers((4,), track, 6, ROW, (2, 4), SHARP, (), (), 4)
        self.answers(None, track, 6, ROW, (2, 4), SHARP, (), (), 3)

    def test_the_only_track(self):
        self.answers((2, 3, 4, 5), track, 6, ROW, (2,), SHARP, (3, 4, 5), (1, 1, 1), 5)

    def test_the_first_one_of_several(self):
        self.answers((2, 1, 2), track, 6, ROW, (2, 3), SHARP, (5, 5), (0, 0), 2)
        self.answers((2, 2, 3), track, 6, ROW, (2, 3), SHARP, (5, 5), (0, 0), 3)
        self.answers((0, 1, 3), track, 6, FORK, (0,), SHARP, (5, 5), (0, 0), 3)

    def test_the_first_one_is_that_of_tuples_from_the_start_on(self):
        mover = ("mover", (0, 1, 2, 3), ((3,), (2,), (2,), (2,)))
        self.answers((0, 3, 2), track, 6, mover, (0, 1), SHARP, (5, 5), (0, 0), 2)
        self.answers((1, 2, 2), track, 6, mover, (0, 1), SHARP, (3, 5), (0, 0), 2)

    def test_a_first_one_that_leads_nowhere_is_left_out(self):
        self.answers((0, 2, 0), track, 6, FORK, (0,), SHARP, (5, 5), (0, 0), 0)
        self.answers((2, 3, 4), track, 6, ROW, (0, 2), SHARP, (5, 5), (0, 0), 4)

    def test_each_value_must_fit(self):
        self.answers((2, 3, 2), track, 6, ROW, (2,), SHARP, (3, 5), (1, 0), 2)
        self.answers((2, 2, 2), track, 6, ROW, (2,), SHARP, (1, 5), (0, 0), 2)
        self.answers(None, track, 6, ROW, (2,), SHARP, (3, 2), (1, 0), 2)

    def test_none(self):
        self.answers(None, track, 6, ROW, (0,), SHARP, (5,), (0,), 5)
        self.answers(None, track, 6, ROW, (0,), SHARP, (0,), (1,), 1)

    def test_values_that_fit_no_tuple(self):
        self.answers(None, track, 6, ROW, (0,), SHARP, (5,), (1,), 5)
        self.answers(None, track, 6, ROW, (0,), SHARP, (5, 0), (1, 1), 0)

    def test_the_width_counts(self):
        self.answers((0, 1), track, 8, ROW, (0,), WIDE, (9,), (1,), 1)
        self.answers(None, track, 4, ROW, (0,), WIDE, (9,), (1,), 1)

    def test_60_values(self):
        self.answers((0,) * 61, track, 6, ROW, (0,), SHARP, (5,) * 60, (0,) * 60, 0)
        self.answers((0,) * 56 + (0, 1, 2, 3, 4), track, 6, ROW, (0,), SHARP, (5,) * 60, (0,) * 60, 4)
        self.answers((0,) * 56 + (1, 2, 3, 4, 5), track, 6, ROW, (0,), ("near", 0, 5), (5,) * 60, (1,) * 60, 5)
        self.answers(None, track, 6, ROW, (0,), SHARP, (5,) * 60, (0,) * 60, 5)

    def test_many_by_the_definition(self):
        for mover in every_mover((0, 1, 4))[::9]:
            for sensor, values in product((SHARP, VAGUE, WIDE), product((0, 1), repeat=3)):
                runs = fitting_runs(3, mover, (0, 2), sensor, (0, 4, 1), values)
                for post in range(3):
                    expected = min([run for run in runs if run[-1] == post], default=None)
                    self.answers(expected, track, 3, mover, (0, 2), sensor, (0, 4, 1), values, post)

    def test_tracks_end_at_the_tracked_posts(self):
        cells, values = (0, 3, 1, 4), (0, 0, 1, 0)
        found = tracked(6, ROW, (1, 4), VAGUE, cells, values)
        self.assertTrue(is_plain(found))
        for post in range(6):
            self.assertEqual(track(6, ROW, (1, 4), VAGUE, cells, values, post) is not None, post in found[-1])


if __name__ == "__main__":
    unittest.main()
