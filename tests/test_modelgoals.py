import unittest

from doubtborne.modelgoals import cell_goals, door_goals, flags, map_goals, task_goals
from doubtborne.models import model_of
from doubtborne.tables import is_belief
from tests.answers import AnswerCase
from tests.sample_books import DONE, VARIED, book, doors_in

MODELS = [(made, model_of(made)) for made in VARIED]


def model(*worlds, goal=()):
    """What a model with these worlds looks like to those who ask for goals."""
    return ("model", worlds, ((),), ((((0, 0),),) * 5,) * len(worlds), (0,), goal)


def world(setting, cell, struck=()):
    return (setting, cell, (), struck, DONE)


def grouped(signs):
    """The sets of numbers with one sign each, ascending."""
    return tuple(sorted(tuple(n for n, other in enumerate(signs) if other == sign) for sign in set(signs)))


class TestTaskGoals(AnswerCase):

    def test_no_goal(self):
        self.answers((), task_goals, model(world((), 0)))
        self.answers((), task_goals, model_of(book(task=("fail",))))

    def test_goals(self):
        self.answers(((0,),), task_goals, model(world((), 0), goal=(0,)))
        self.answers(((1, 2),), task_goals, model_of(book(plan=(".a",), task=("at", 1))))

    def test_all(self):
        for _, told in MODELS:
            self.answers((told[5],) if told[5] else (), task_goals, told)


class TestDoorGoals(AnswerCase):

    def test_open_and_shut(self):
        told = model(world((0, 0), 0), world((0, 1), 0), world((1, 0), 0), world((1, 1), 0))
        self.answers(((0, 1), (2, 3)), door_goals, told, 1)
        self.answers(((0, 2), (1, 3)), door_goals, told, 2)

    def test_a_door_that_is_open_or_shut_in_all_worlds(self):
        told = model(world((0, 1), 0), world((0, 1), 1))
        self.answers(((0, 1),), door_goals, told, 1)
        self.answers(((0, 1),), door_goals, told, 2)
        made = book(plan=(".1.",), rules=(("least", 1, (1,)),))
        self.answers(((0, 1, 2),), door_goals, model_of(made), 1)

    def test_all(self):
        for made, told in MODELS:
            for door in range(1, doors_in(made[1]) + 1):
                self.answers(grouped([one[0][door - 1] for one in told[1]]), door_goals, told, door)


class TestCellGoals(AnswerCase):

    def test_one_cell_and_several(self):
        self.answers(((0,),), cell_goals, model_of(book(plan=(".",))))
        self.answers(((0, 1), (2,)), cell_goals, model_of(book(plan=(".a",), task=("at", 1))))

    def test_sets_ascend_as_tuples_and_not_by_the_cells(self):
        told = model(world((0,), 5), world((0,), 7), world((1,), 3), world((1,), 5))
        self.answers(((0, 3), (1,), (2,)), cell_goals, told)

    def test_all(self):
        for _, told in MODELS:
            self.answers(grouped([one[1] for one in told[1]]), cell_goals, told)


class TestMapGoals(AnswerCase):

    def test_one_setting_and_several(self):
        self.answers(((0, 1),), map_goals, model_of(book()))
        told = model(world((0, 0), 1), world((0, 0), 2), world((0, 1), 0), world((1, 1), 0))
        self.answers(((0, 1), (2,), (3,)), map_goals, told)

    def test_sets_ascend_as_tuples(self):
        told = model(world((1,), 0), world((0,), 0), world((1,), 1))
        self.answers(((0, 2), (1,)), map_goals, told)

    def test_all(self):
        for _, told in MODELS:
            self.answers(grouped([one[0] for one in told[1]]), map_goals, told)


class TestGoals(AnswerCase):

    def test_goals_are_beliefs_and_ascend(self):
        for made, told in MODELS:
            found = [task_goals(told), cell_goals(told), map_goals(told)]
            found += [door_goals(told, door) for door in range(1, doors_in(made[1]) + 1)]
            for goals in found:
                self.ascends(goals)
                for goal in goals:
                    self.says(True, is_belief, told[3], goal)


class TestFlags(AnswerCase):

    def test_ordinary(self):
        told = model(world((), 0), world((), 0, (0,)), world((), 0, (0, 2)), world((), 0, (1,)))
        self.answers((0, 1, 1, 0), flags, told, 0)
        self.answers((0, 0, 0, 1), flags, told, 1)
        self.answers((0, 0, 1, 0), flags, told, 2)

    def test_a_fault_that_never_strikes(self):
        told = model_of(book(faults=(("drift", 1, ()),), most=0))
        self.answers((0, 0), flags, told, 0)

    def test_a_fault_that_strikes(self):
        told = model_of(book(plan=(".",), faults=(("drift", 1, ()), ("drift", 2, ())), most=1))
        self.assertEqual([one[3] for one in told[1]], [(), (0,), (1,)])
        self.answers((0, 1, 0), flags, told, 0)
        self.answers((0, 0, 1), flags, told, 1)

    def test_flagged_worlds_lead_only_to_flagged_ones(self):
        for made, told in MODELS:
            for fault in range(len(made[6])):
                found = flags(told, fault)
                self.answers(tuple(int(fault in one[3]) for one in told[1]), flags, told, fault)
                for flag, row in zip(found, told[3]):
                    for pairs in row:
                        self.assertTrue(all(found[behind] >= flag for reading, behind in pairs if reading != -1))


if __name__ == "__main__":
    unittest.main()
