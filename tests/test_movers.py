import unittest

from doubtborne.movers import may_go, posts_after, round_of
from tests.answers import AnswerCase, every_mover, runs_of, subsets

RING = ("mover", (0, 1, 2, 3, 4, 5), ((1,), (2,), (3,), (4,), (5,), (0,)))
TAIL = ("mover", (0, 1, 2, 3, 4, 5), ((1,), (2,), (3,), (4,), (5,), (3,)))
FORK = ("mover", (7, 7, 9), ((1, 2), (0,), (2,)))
STILL = ("mover", (5,), ((0,),))


def behind(mover, posts, many):
    """The sets of posts behind 0 to so many steps, from all runs one by one."""
    found = [set(posts)]
    for _ in range(many):
        found.append({new for old in found[-1] for new in mover[2][old]})
    return found


def round_by_definition(mover, posts, many=40):
    """The least first and the least length, looked at over many steps."""
    found = behind(mover, posts, many)
    for first in range(many):
        for length in range(1, many // 2 - first):
            if all(found[k] == found[k + length] for k in range(first, many + 1 - length)):
                return (first, length)
    return None


class TestMayGo(AnswerCase):

    def test_one_post(self):
        self.answers((0,), may_go, STILL, (0,))

    def test_ordinary(self):
        self.answers((1, 2), may_go, FORK, (0,))
        self.answers((0,), may_go, FORK, (1,))
        self.answers((0, 2), may_go, FORK, (1, 2))
        self.answers((0, 1, 2), may_go, FORK, (0, 1))

    def test_six_posts(self):
        self.answers((0, 1, 2, 3, 4, 5), may_go, RING, (0, 1, 2, 3, 4, 5))
        self.answers((0, 2), may_go, RING, (1, 5))
        everywhere = ("mover", (3,) * 6, (tuple(range(6)),) * 6)
        self.answers((0, 1, 2, 3, 4, 5), may_go, everywhere, (4,))

    def test_posts_and_not_cells_count(self):
        mover = ("mover", (40, 40, 2), ((2,), (1,), (0,)))
        self.answers((2,), may_go, mover, (0,))
        self.answers((1,), may_go, mover, (1,))

    def test_all_small_movers_by_the_definition(self):
        for mover in every_mover((4, 5, 6)):
            for posts in subsets(range(3))[1:]:
                expected = tuple(sorted({run[-1] for run in runs_of(mover, posts, 1)}))
                self.answers(expected, may_go, mover, posts)


class TestPostsAfter(AnswerCase):

    def test_no_step(self):
        for posts in subsets(range(6))[1:]:
            self.answers(posts, posts_after, RING, posts, 0)

    def test_one_step_is_may_go(self):
        for posts in subsets(range(3))[1:]:
            self.answers(may_go(FORK, posts), posts_after, FORK, posts, 1)

    def test_some_steps(self):
        self.answers((2,), posts_after, RING, (0,), 2)
        self.answers((5,), posts_after, RING, (0,), 5)
        self.answers((0, 2), posts_after, FORK, (0,), 2)
        self.answers((1, 2), posts_after, FORK, (0,), 3)

    def test_1000_steps(self):
        self.answers((0,), posts_after, STILL, (0,), 1000)
        self.answers((4,), posts_after, RING, (0,), 1000)
        self.answers((0, 3), posts_after, RING, (2, 5), 1000)
        self.answers((4,), posts_after, TAIL, (0,), 1000)
        self.answers((5,), posts_after, TAIL, (0,), 998)
        self.answers((0, 2), posts_after, FORK, (0,), 1000)

    def test_all_small_movers_by_the_definition(self):
        for mover in every_mover((4, 5, 6))[::3]:
            for steps in range(5):
                expected = tuple(sorted({run[-1] for run in runs_of(mover, (1,), steps)}))
                self.answers(expected, posts_after, mover, (1,), steps)


class TestRoundOf(AnswerCase):

    def test_one_post(self):
        self.answers((0, 1), round_of, STILL, (0,))

    def test_length_1_and_longer(self):
        self.answers((0, 6), round_of, RING, (0,))
        self.answers((0, 3), round_of, RING, (0, 3))
        self.answers((0, 2), round_of, RING, (1, 3, 5))
        self.answers((0, 1), round_of, RING, (0, 1, 2, 3, 4, 5))
        self.answers((0, 6), round_of, RING, (0, 1, 3))

    def test_first_of_0_and_more(self):
        self.answers((3, 3), round_of, TAIL, (0,))
        self.answers((2, 3), round_of, TAIL, (1,))
        self.answers((0, 3), round_of, TAIL, (3,))
        self.answers((3, 1), round_of, TAIL, (0, 1, 2, 3, 4, 5))
        self.answers((1, 1), round_of, TAIL, (2, 3, 4, 5))
        self.answers((1, 1), round_of, ("mover", (0, 1), ((1,), (1,))), (0,))

    def test_sets_grow(self):
        self.answers((1, 2), round_of, FORK, (0,))
        self.answers((2, 2), round_of, FORK, (1,))
        self.answers((0, 1), round_of, FORK, (0, 1, 2))

    def test_a_long_round(self):
        mover = ("mover", (0,) * 6, ((1,), (2,), (0,), (4,), (3,), (5,)))
        self.answers((0, 6), round_of, mover, (0, 3, 5))

    def test_all_small_movers_by_the_definition(self):
        for mover in every_mover((4, 5, 6)):
            for posts in subsets(range(3))[1:]:
                self.answers(round_by_definition(mover, posts), round_of, mover, posts)


if __name__ == "__main__":
    unittest.main()
