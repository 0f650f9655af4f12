import unittest
from itertools import combinations

from doubtborne.sets import common, inside, is_ascending, is_some_of, maximal_of, minimal_of, one_of_each, subsets_of
from tests.answers import AnswerCase, subsets

SETS = subsets(range(4))


class TestIsSomeOf(AnswerCase):

    def test_right_ones(self):
        for members in ((0,), (4,), (0, 4), (0, 1, 2, 3, 4)):
            self.says(True, is_some_of, members, 5)

    def test_wrong_ones(self):
        for members in ((), (5,), (-1,), (0, 5), (-1, 0), (1, 0), (0, 0), (0, 2, 1)):
            self.says(False, is_some_of, members, 5)
        self.says(False, is_some_of, (0,), 0)


class TestOneOfEach(AnswerCase):

    def test_ordinary(self):
        self.answers(((),), one_of_each, ())
        self.answers(((1,), (3,)), one_of_each, ((1, 3),))
        self.answers(((0, 1), (0, 2), (5, 1), (5, 2)), one_of_each, ((0, 5), (1, 2)))
        self.answers((), one_of_each, ((0, 5), ()))


class TestInside(AnswerCase):

    def test_ordinary(self):
        self.says(True, inside, (1, 3), (0, 1, 3))
        self.says(False, inside, (1, 2), (0, 1, 3))
        self.says(False, inside, (0, 1, 3), (1, 3))

    def test_each_set_lies_inside_itself(self):
        for one in SETS:
            self.says(True, inside, one, one)

    def test_the_empty_set_lies_inside_every_one(self):
        for one in SETS:
            self.says(True, inside, (), one)
            self.says(not one, inside, one, ())

    def test_all_pairs_of_small_sets(self):
        for first in SETS:
            for second in SETS:
                self.says(all(x in second for x in first), inside, first, second)

    def test_sets_of_400(self):
        whole = tuple(range(400))
        self.says(True, inside, whole, whole)
        self.says(True, inside, whole[1:], whole)
        self.says(False, inside, whole[1:] + (400,), whole)


class TestCommon(AnswerCase):

    def test_ordinary(self):
        self.answers((1, 3), common, (0, 1, 3), (1, 2, 3))

    def test_nothing_in_common(self):
        self.answers((), common, (0, 2), (1, 3))
        self.answers((), common, (), (1, 3))
        self.answers((), common, (), ())

    def test_all_pairs_of_small_sets(self):
        for first in SETS:
            for second in SETS:
                self.answers(tuple(x for x in first if x in second), common, first, second)

    def test_numbers_ascend_as_numbers(self):
        many = (0, 8, 9, 10, 64, 100, 1000)
        self.answers(many, common, many, tuple(range(1001)))


class TestSubsets(AnswerCase):

    def test_ordinary(self):
        self.answers(((),), subsets_of, ())
        self.answers(((), (4,)), subsets_of, (4,))
        self.answers(((), (1,), (1, 3), (1, 3, 8), (1, 8), (3,), (3, 8), (8,)), subsets_of, (1, 3, 8))

    def test_six_members(self):
        found = subsets_of((0, 1, 2, 3, 4, 5))
        self.answers(tuple(sorted(subsets(range(6)))), subsets_of, (0, 1, 2, 3, 4, 5))
        self.ascends(found)


class TestMaximalAndMinimal(AnswerCase):

    def test_ordinary(self):
        sets = ((3,), (1, 2), (2,), (0, 3), (1,))
        self.answers(((0, 3), (1, 2)), maximal_of, sets)
        self.answers(((1,), (2,), (3,)), minimal_of, sets)

    def test_no_set(self):
        self.answers((), maximal_of, ())
        self.answers((), minimal_of, ())

    def test_the_empty_set_among_sets(self):
        self.answers(((1,), (2,)), maximal_of, ((2,), (), (1,)))
        self.answers(((),), minimal_of, ((2,), (), (1,)))
        self.answers(((),), maximal_of, ((),))
        self.answers(((),), minimal_of, ((),))

    def test_a_set_twice_comes_once(self):
        self.answers(((1, 2),), maximal_of, ((1, 2), (1, 2)))
        self.answers(((1, 2),), minimal_of, ((1, 2), (1, 2)))

    def test_sets_that_only_overlap_are_all_kept(self):
        sets = ((1, 2), (0, 2), (0, 1))
        self.answers(tuple(sorted(sets)), maximal_of, sets)
        self.answers(tuple(sorted(sets)), minimal_of, sets)

    def test_the_order_is_that_of_tuples_and_not_of_lengths(self):
        self.answers(((0, 5, 6), (1, 2), (1, 3, 4)), maximal_of, ((1, 3, 4), (1, 2), (0, 5, 6)))
        self.answers(((0, 5, 6), (1, 2), (1, 3, 4)), minimal_of, ((1, 2), (0, 5, 6), (1, 3, 4)))

    def test_all_threes_of_small_sets(self):
        for sets in combinations(SETS, 3):
            largest = [one for one in sets if not any(set(one) < set(other) for other in sets)]
            smallest = [one for one in sets if not any(set(other) < set(one) for other in sets)]
            self.answers(tuple(sorted(largest)), maximal_of, sets[::-1])
            self.answers(tuple(sorted(smallest)), minimal_of, sets[::-1])


class TestAscending(AnswerCase):

    def test_ascending(self):
        for items in ((), (3,), (1, 2), ((-1, -1), (0, 0))):
            self.says(True, is_ascending, items)
        for items in ((2, 1), (1, 1), (1, 3, 2), (1, 2, 2), ((0, 0), (-1, -1))):
            self.says(False, is_ascending, items)


if __name__ == "__main__":
    unittest.main()
