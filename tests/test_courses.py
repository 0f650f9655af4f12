import unittest
from itertools import product

from doubtborne.courses import judge_course
from doubtborne.worlds import outcomes, start_worlds
from tests.answers import AnswerCase
from tests.sample_books import DONE, EAST, VARIED, WAIT, WEST, book, outcomes_by_definition, standing

MADE = book(plan=("..a",), sensors=(("range", 1, 2, 0),), pushes=(((0,), (0, 0)), ((0,),)), cells=(0, 1),
            task=("at", 1))


def world(cell, left=("at", 1), setting=(), posts=(), struck=()):
    return (setting, cell, posts, struck, left)


RIGHT = ((world(0), world(1), world(2, DONE), world(1, DONE)), (EAST, EAST, WEST), ((1,), (0,), (1,)))


class TestRightCourses(AnswerCase):

    def test_one_world(self):
        self.says(True, judge_course, MADE, ((world(0),), (), ()))
        self.says(True, judge_course, MADE, ((world(1),), (), ()))

    def test_several_steps(self):
        self.says(True, judge_course, MADE, RIGHT)
        waited = ((world(1),) * 4, (WAIT,) * 3, ((1,),) * 3)
        self.says(True, judge_course, MADE, waited)

    def test_100_steps(self):
        self.says(True, judge_course, MADE, ((world(0),) * 101, (WAIT,) * 100, ((2,),) * 100))
        self.says(False, judge_course, MADE, ((world(0),) * 101, (WAIT,) * 100, ((2,),) * 99 + ((1,),)))

    def test_all_short_ones(self):
        for made in VARIED:
            for first in start_worlds(made):
                for command, other in product(range(5), repeat=2):
                    for reading, second in outcomes(made, first, command)[1][::8]:
                        self.says(True, judge_course, made, ((first, second), (command,), (reading,)))
                        for shown, third in outcomes(made, second, other)[1][::11]:
                            course = ((first, second, third), (command, other), (reading, shown))
                            self.says(True, judge_course, made, course)


class TestWrongCourses(AnswerCase):

    def wrong(self, *course):
        self.says(False, judge_course, MADE, course)

    def test_lengths(self):
        for part in range(3):
            for changed in (RIGHT[part][:-1], RIGHT[part] + RIGHT[part][-1:], RIGHT[part][1:], ()):
                self.wrong(*(RIGHT[:part] + (changed,) + RIGHT[part + 1:]))

    def test_no_world(self):
        self.wrong((), (), ())
        self.wrong((), (WAIT,), ((1,),))

    def test_one_world_with_a_command_or_a_reading(self):
        self.wrong((world(0),), (WAIT,), ())
        self.wrong((world(0),), (), ((1,),))
        self.wrong((world(0),), (WAIT,), ((2,),))

    def test_a_first_world_that_is_no_start_world(self):
        self.wrong((world(2, DONE),), (), ())
        self.wrong((world(1, DONE),), (), ())
        self.wrong((world(2, DONE), world(1, DONE)), (WEST,), ((1,),))

    def test_commands(self):
        for command in (-1, 5, -5, 1000, -1000):
            self.wrong((world(0), world(0)), (command,), ((2,),))
            self.wrong(RIGHT[0], (EAST, command, WEST), RIGHT[2])
        self.wrong(RIGHT[0], (EAST, EAST, EAST), RIGHT[2])
        self.wrong(RIGHT[0], (WAIT, EAST, WEST), RIGHT[2])

    def test_no_command_is_counted_from_the_end(self):
        made = book(plan=("..",))
        self.says(True, judge_course, made, ((world(0, DONE), world(0, DONE)), (WEST,), ((),)))
        self.says(False, judge_course, made, ((world(0, DONE), world(0, DONE)), (-1,), ((),)))

    def test_a_reading_that_may_not_come(self):
        for reading in ((2,), (-1,), (3,), (), (1, 1)):
            self.wrong((world(0), world(1)), (EAST,), (reading,))

    def test_a_reading_that_may_come_only_with_another_world(self):
        self.says(True, judge_course, MADE, ((world(0), world(2, DONE)), (EAST,), ((0,),)))
        self.wrong((world(0), world(1)), (EAST,), ((0,),))
        self.wrong((world(0), world(2, DONE)), (EAST,), ((1,),))
        self.wrong(RIGHT[0], RIGHT[1], RIGHT[2][:2] + ((0,),))

    def test_a_touch_is_no_step(self):
        made = book(plan=(".*",))
        self.says(True, judge_course, made, ((world(0, DONE), world(0, DONE)), (WEST,), ((),)))
        self.says(False, judge_course, made, ((world(0, DONE), world(1, DONE)), (EAST,), ((),)))
        self.says(False, judge_course, made, ((world(0, DONE), world(0, DONE)), (EAST,), ((),)))
        made = book(plan=("..",), movers=(standing(1),))
        here, there = world(0, DONE, posts=(0,)), world(1, DONE, posts=(0,))
        self.says(False, judge_course, made, ((here, there), (EAST,), ((),)))

    def test_worlds_that_are_none_of_the_book(self):
        others = (
            world(-1), world(3), world(1000), world(-1000), world(1, ("at", 2)), world(1, ("fail",)),
            world(1, setting=(0,)), world(1, setting=(-7, 1000)), world(1, posts=(0,)), world(1, posts=(-1, 5)),
            world(1, struck=(0,)), world(1, struck=(5, 5, -1)), world(1, ("within", -1, ("at", 1000))),
            world(1, ("both", ("at", 1), ("at", 0))), world(0, setting=(1,), posts=(1,), struck=(1,)))
        for other, at in product(others, range(4)):
            self.wrong(RIGHT[0][:at] + (other,) + RIGHT[0][at + 1:], RIGHT[1], RIGHT[2])

    def test_worlds_of_the_book_in_wrong_places(self):
        for other, at in product((world(0), world(1), world(2, DONE), world(0, DONE), world(1, DONE)), range(4)):
            if other != RIGHT[0][at]:
                course = (RIGHT[0][:at] + (other,) + RIGHT[0][at + 1:], RIGHT[1], RIGHT[2])
                self.says(False, judge_course, MADE, course)

    def test_all_that_may_come_behind_one_step(self):
        for made in VARIED[:3]:
            for first, command in product(start_worlds(made)[:4], range(5)):
                pairs = outcomes_by_definition(made, first, command)[1]
                for shown, behind in product({pair[0] for pair in pairs}, {pair[1] for pair in pairs}):
                    course = ((first, behind), (command,), (shown,))
                    self.says((shown, behind) in pairs, judge_course, made, course)


if __name__ == "__main__":
    unittest.main()
