import unittest
from itertools import product

from doubtborne.meeting import first_meeting, least_wait, meets
from tests.answers import AnswerCase, every_mover, runs_of, subsets

RING = ("mover", (10, 11, 12, 13, 14, 15), ((1,), (2,), (3,), (4,), (5,), (0,)))
STILL = ("mover", (5,), ((0,),))
GOES_AWAY = ("mover", (3, 9), ((1,), (1,)))
COMES_AT_ANY_TIME = ("mover", (3, 9), ((0,), (0, 1)))
# More steps than any mover of three posts has sets of posts.
MANY = 9


def met(mover, run, step, way):
    """Whether a step, counted from 1, of a mover's run meets a robot that goes the way."""
    old, new = mover[1][run[step - 1]], mover[1][run[step]]
    return any(cell in (old, new) for cell in way)


def first_by_definition(mover, posts, cell):
    """The first step in which some run meets the cell."""
    for step in range(1, MANY):
        if any(met(mover, run, step, (cell,)) for run in runs_of(mover, posts, step)):
            return step
    return None


def wait_by_definition(mover, posts, way):
    """The least number of steps to wait for which no run meets the robot."""
    for waited in range(MANY):
        ways = [way[:1]] * waited + list(zip(way, way[1:]))
        if all(met_never(mover, run, ways) for run in runs_of(mover, posts, len(ways))):
            return waited
    return None


def met_never(mover, run, ways):
    """Whether no step of a run meets the robot that goes these ways."""
    return not any(met(mover, run, step + 1, way) for step, way in enumerate(ways))


class TestMeets(AnswerCase):

    def test_the_first_and_the_last_cell_of_a_way(self):
        for way in ((3, 4, 5), (3, 4), (4, 3, 4, 5)):
            for cell in way:
                self.says(True, meets, way, cell, 60)
                self.says(True, meets, way, 60, cell)
                self.says(True, meets, way, cell, cell)

    def test_a_mover_that_comes_and_one_that_leaves(self):
        self.says(True, meets, (7,), 6, 7)
        self.says(True, meets, (7,), 7, 6)
        self.says(True, meets, (7,), 7, 7)
        self.says(False, meets, (7,), 6, 8)

    def test_changing_places(self):
        self.says(True, meets, (3, 4), 4, 3)
        self.says(True, meets, (3, 4), 3, 4)

    def test_going_behind_each_other(self):
        self.says(True, meets, (3, 4), 4, 5)
        self.says(True, meets, (3, 4), 2, 3)

    def test_cells_between_old_and_new_do_not_count(self):
        self.says(False, meets, (4,), 3, 5)
        self.says(False, meets, (0, 1, 2), 8, 10)

    def test_cells_0_and_63(self):
        self.says(True, meets, (0,), 0, 63)
        self.says(True, meets, (63,), 0, 63)
        self.says(False, meets, (1, 2), 0, 63)


class TestFirstMeeting(AnswerCase):

    def test_a_mover_that_comes(self):
        for cell, step in zip(range(11, 16), range(1, 6)):
            self.answers(step, first_meeting, RING, (0,), cell)

    def test_a_mover_that_begins_at_the_cell_and_leaves(self):
        self.answers(1, first_meeting, RING, (0,), 10)
        self.answers(1, first_meeting, GOES_AWAY, (0,), 3)

    def test_never(self):
        self.answers(None, first_meeting, RING, (0,), 9)
        self.answers(None, first_meeting, GOES_AWAY, (1,), 3)
        self.answers(None, first_meeting, STILL, (0,), 4)

    def test_always(self):
        self.answers(1, first_meeting, STILL, (0,), 5)

    def test_any_post_of_the_set_is_enough(self):
        self.answers(2, first_meeting, RING, (0, 3), 15)
        self.answers(1, first_meeting, RING, (0, 4), 15)

    def test_it_may_meet_though_it_need_not(self):
        self.answers(1, first_meeting, COMES_AT_ANY_TIME, (1,), 3)

    def test_two_posts_with_one_cell(self):
        mover = ("mover", (1, 2, 3, 2), ((1,), (2,), (3,), (0,)))
        self.answers(1, first_meeting, mover, (2,), 2)
        self.answers(2, first_meeting, mover, (2,), 1)

    def test_a_late_meeting_ahead_of_the_round(self):
        mover = ("mover", (0, 1, 2, 3, 4, 5), ((1,), (2,), (3,), (4,), (5,), (5,)))
        self.answers(5, first_meeting, mover, (0,), 5)
        self.answers(4, first_meeting, mover, (0,), 4)

    def test_the_cell_0(self):
        mover = ("mover", (1, 0), ((1,), (1,)))
        self.answers(1, first_meeting, mover, (0,), 0)

    def test_all_small_movers_by_the_definition(self):
        for mover in every_mover((4, 5, 6))[::2]:
            for posts, cell in product(((0,), (1, 2)), (4, 6, 7)):
                self.answers(first_by_definition(mover, posts, cell), first_meeting, mover, posts, cell)


class TestLeastWait(AnswerCase):

    def test_a_way_of_one_cell(self):
        self.answers(0, least_wait, STILL, (0,), (5,))
        self.answers(0, least_wait, STILL, (0,), (4,))
        self.answers(0, least_wait, RING, (0, 1, 2, 3, 4, 5), (10,))

    def test_going_at_once(self):
        self.answers(0, least_wait, STILL, (0,), (3, 4))
        self.answers(0, least_wait, RING, (0,), (20, 14, 21))
        self.answers(0, least_wait, GOES_AWAY, (1,), (2, 3, 4))

    def test_waiting_until_it_is_gone(self):
        self.answers(1, least_wait, GOES_AWAY, (0,), (2, 3))
        self.answers(2, least_wait, RING, (1,), (20, 12))
        self.answers(1, least_wait, RING, (3,), (20, 13))

    def test_a_mover_on_its_way_through(self):
        self.answers(3, least_wait, RING, (0,), (20, 12, 13, 14))
        self.answers(1, least_wait, RING, (3,), (20, 13, 14))
        self.answers(2, least_wait, RING, (3,), (20, 14, 13))

    def test_always_meeting(self):
        self.answers(None, least_wait, STILL, (0,), (5, 6))
        self.answers(None, least_wait, STILL, (0,), (4, 5))
        self.answers(None, least_wait, STILL, (0,), (4, 3, 5))

    def test_meeting_while_waiting(self):
        # The robot cannot go at once, and the mover comes to the first cell in the next step.
        self.answers(None, least_wait, RING, (0,), (11, 10))
        self.answers(None, least_wait, GOES_AWAY, (0,), (3, 4))
        # It comes to the first cell in a later step, but ahead of that the way is free.
        self.answers(1, least_wait, RING, (0,), (14, 10))
        self.answers(None, least_wait, RING, (0,), (13, 12, 11, 10))

    def test_the_last_step_of_waiting_counts(self):
        mover = ("mover", (1, 2, 0, 9), ((1,), (2,), (3,), (3,)))
        self.answers(None, least_wait, mover, (0,), (0, 2))
        self.answers(2, least_wait, mover, (0,), (5, 2, 0))
        self.answers(2, least_wait, mover, (1,), (5, 0))

    def test_never_though_waiting_is_safe(self):
        back_and_forth = ("mover", (1, 2), ((1,), (0,)))
        self.answers(None, least_wait, back_and_forth, (0,), (0, 1))
        self.answers(None, least_wait, back_and_forth, (0,), (0, 8, 1, 2))

    def test_surely_asks_for_all_posts_and_all_ways_of_the_mover(self):
        self.answers(None, least_wait, COMES_AT_ANY_TIME, (1,), (0, 3))
        self.answers(None, least_wait, COMES_AT_ANY_TIME, (1,), (0, 9))
        self.answers(1, least_wait, GOES_AWAY, (0, 1), (2, 3))

    def test_old_and_new_both_count_in_each_step(self):
        # In the step in which the robot comes, the mover leaves; then in the one ahead of it, it comes.
        self.answers(2, least_wait, RING, (5,), (20, 10))
        self.answers(0, least_wait, RING, (2,), (20, 10))
        self.answers(0, least_wait, RING, (1,), (20, 21, 22, 10))

    def test_a_way_with_a_cell_twice(self):
        self.answers(0, least_wait, RING, (0,), (20, 20, 20))
        self.answers(0, least_wait, RING, (0,), (20, 12))
        self.answers(3, least_wait, RING, (0,), (20, 12, 20, 12))
        self.answers(3, least_wait, RING, (0,), (20, 12, 12))
        self.answers(None, least_wait, STILL, (0,), (5, 5))

    def test_cells_need_not_be_neighbours(self):
        self.answers(0, least_wait, STILL, (0,), (0, 63, 7))
        # It goes from one cell to the next in one step, and touches none between.
        self.answers(0, least_wait, STILL, (0,), (4, 6))

    def test_a_way_of_60_cells(self):
        self.answers(0, least_wait, RING, (0,), tuple(range(20, 64)) + tuple(range(20, 36)))
        self.answers(2, least_wait, RING, (0,), (20,) * 57 + (13, 14, 15))
        self.answers(1, least_wait, RING, (0,), (20,) * 59 + (14,))

    def test_all_small_movers_by_the_definition(self):
        ways = ((7, 4), (4, 7), (7, 7, 5), (5, 7, 5), (6,), (7, 8))
        for mover in every_mover((4, 5, 6))[::4]:
            for posts, way in product(((0,), (1, 2)), ways):
                self.answers(wait_by_definition(mover, posts, way), least_wait, mover, posts, way)

    def test_it_agrees_with_the_first_meeting(self):
        for mover in every_mover((4, 5, 6))[::3]:
            for posts in subsets(range(3))[1:]:
                # Who stands for one step first, and then goes to the same cell, goes on standing there.
                first = first_meeting(mover, posts, 5)
                self.answers(None if first == 1 else 0, least_wait, mover, posts, (5, 5))


if __name__ == "__main__":
    unittest.main()
