import unittest

from doubtborne.errors import NotBorne
from doubtborne.modelgoals import task_goals
from doubtborne.models import model_of
from doubtborne.policies import find_policy, judge_policy
from doubtborne.tables import is_belief
from doubtborne.tightening import carried, tighter
from doubtborne.webs import steps_of
from tests.answers import AnswerCase
from tests.sample_books import EAST, NORTH, PLAIN, VARIED, book
from tests.sample_tables import line_table, made_model

TRAILS = ((), (0,), (0, 0))
MOVER = ("mover", (2, 5, 2), ((0, 1), (1,), (0, 1, 2)))
PARTS = {
    "plan": ("1.2", "..a", "+,."), "rules": (("most", 1, (1, 2)),),
    "sensors": (("range", 0, 2, 1), ("mark", ((0, 1), (1, 2))), ("bump",), ("near", 1, 3)),
    "pushes": (TRAILS, ((0,), (1,))), "movers": (MOVER,), "faults": (("dead", 0), ("drift", EAST, ())), "most": 1,
    "battery": ("battery", 5, 1, 1, 2, 3), "task": ("then", ("at", 1), ("at", 2)), "cells": (3, 4, 7),
    "posts": ((0, 2),)}


def with_parts(**parts):
    """The book that all are compared with, but for some parts."""
    return book(**{**PARTS, **parts})


def with_sensor(number, sensor):
    """The book but for one of its sensors."""
    sensors = PARTS["sensors"]
    return with_parts(sensors=sensors[:number] + (sensor,) + sensors[number + 1:])


def with_mover(cells=MOVER[1], leads=MOVER[2], posts=PARTS["posts"]):
    """The book but for its mover."""
    return with_parts(movers=(("mover", cells, leads),), posts=posts)


WHOLE = with_parts()


class TestTighter(AnswerCase):

    def one_way(self, less, more=WHOLE):
        """The first book is tighter than the second one, and not the other way round."""
        self.says(True, tighter, less, more)
        self.says(False, tighter, more, less)

    def both_ways(self, one, other=WHOLE):
        self.says(True, tighter, one, other)
        self.says(True, tighter, other, one)

    def no_way(self, one, other=WHOLE):
        self.says(False, tighter, one, other)
        self.says(False, tighter, other, one)

    def test_itself(self):
        for made in VARIED + (WHOLE,):
            self.both_ways(made, made)

    def test_other_books(self):
        for number, made in enumerate(VARIED):
            for other in VARIED[:number]:
                self.no_way(made, other)

    def test_plans(self):
        self.no_way(with_parts(plan=("1.2", "..a", "+..")))
        self.no_way(with_parts(plan=("1.2", "..a", "+,#")))
        self.no_way(with_parts(plan=("1.2..a", "+,.###"), cells=(3,)))
        self.no_way(book(plan=("..",)), book(plan=(".", ".")))

    def test_batteries(self):
        for at in range(1, 6):
            for more in (-1, 1):
                battery = list(PARTS["battery"])
                battery[at] += more
                self.no_way(with_parts(battery=tuple(battery)))

    def test_tasks(self):
        self.no_way(with_parts(task=("at", 1)))
        self.no_way(with_parts(task=("then", ("at", 1), ("at", 3))))
        self.no_way(book(task=("within", 3, ("at", 1))), book(task=("within", 4, ("at", 1))))
        self.no_way(book(task=("both", ("at", 1), ("at", 2))), book(task=("both", ("at", 2), ("at", 1))))

    def test_faults(self):
        self.no_way(with_parts(faults=PARTS["faults"][:1]))
        self.no_way(with_parts(faults=PARTS["faults"][::-1]))
        self.no_way(with_parts(faults=()))
        self.no_way(with_parts(faults=(("wild", 0), ("drift", EAST, ()))))
        self.no_way(with_parts(faults=(("dead", 0), ("drift", NORTH, ()))))

    def test_rules_that_say_the_same_in_other_words(self):
        self.both_ways(with_parts(rules=(("least", 1, (-1, -2)),)))
        self.both_ways(with_parts(rules=PARTS["rules"] * 3))
        self.both_ways(with_parts(rules=PARTS["rules"] + (("least", 0, ()), ("most", 6, (1,)))))

    def test_fewer_and_more_cases(self):
        self.one_way(with_parts(rules=PARTS["rules"] + (("least", 1, (1, 2)),)))
        self.one_way(with_parts(rules=(("most", 0, (1, 2)),)))
        self.one_way(WHOLE, with_parts(rules=()))
        self.no_way(with_parts(rules=(("least", 1, (1, 2)),)))
        self.no_way(with_parts(rules=(("least", 2, (1, 2)),)))

    def test_another_number_of_sensors(self):
        for sensors in (PARTS["sensors"][:3], PARTS["sensors"][1:], PARTS["sensors"][:3] + PARTS["sensors"][:1]):
            self.no_way(with_parts(sensors=sensors))
        self.no_way(book(sensors=()), book(sensors=(("bump",),)))
        self.no_way(book(sensors=(("bump",),) * 2), book(sensors=(("bump",),)))

    def test_another_sort_of_sensor(self):
        sorts = (("range", 0, 1, 0), ("mark", ()), ("bump",), ("near", 0, 0))
        for number, one in enumerate(sorts):
            for other in sorts[:number]:
                self.no_way(book(sensors=(one,)), book(sensors=(other,)))

    def test_range_sensors(self):
        self.one_way(with_sensor(0, ("range", 0, 2, 0)))
        self.one_way(WHOLE, with_sensor(0, ("range", 0, 2, 2)))
        self.one_way(with_sensor(0, ("range", 0, 2, 0)), with_sensor(0, ("range", 0, 2, 4)))
        for sensor in (("range", 1, 2, 1), ("range", 0, 1, 1), ("range", 0, 3, 1), ("range", 1, 2, 0)):
            self.no_way(with_sensor(0, sensor))

    def test_mark_sensors(self):
        self.one_way(with_sensor(1, ("mark", ())))
        self.one_way(with_sensor(1, ("mark", ((0, 1),))))
        self.one_way(WHOLE, with_sensor(1, ("mark", ((0, 1), (0, 4), (1, 2)))))
        self.no_way(with_sensor(1, ("mark", ((0, 1), (1, 3)))))
        self.no_way(with_sensor(1, ("mark", ((1, 0),))))

    def test_near_sensors(self):
        for near in (("near", 2, 3), ("near", 1, 2), ("near", 2, 2)):
            self.one_way(with_sensor(3, near))
        for near in (("near", 0, 3), ("near", 1, 4), ("near", 0, 16)):
            self.one_way(WHOLE, with_sensor(3, near))
        self.no_way(with_sensor(3, ("near", 0, 2)))
        self.no_way(with_sensor(3, ("near", 2, 4)))

    def test_trails(self):
        dry, slick = PARTS["pushes"]
        self.one_way(with_parts(pushes=(dry[1:], slick)))
        self.one_way(with_parts(pushes=(dry, slick[:1])))
        self.one_way(with_parts(pushes=(dry[:1], slick[1:])))
        self.one_way(WHOLE, with_parts(pushes=(dry + ((1,),), slick)))
        self.no_way(with_parts(pushes=(dry[1:], slick + ((2,),))))
        self.no_way(with_parts(pushes=(((0, 1),), slick)))
        self.no_way(with_parts(pushes=(slick, dry)))
        self.no_way(with_parts(pushes=(dry[:2] + ((0, 1),), slick)))

    def test_movers(self):
        self.one_way(with_mover(leads=((0,), (1,), (0, 1, 2))))
        self.one_way(with_mover(leads=((0, 1), (1,), (2,))))
        self.one_way(WHOLE, with_mover(leads=((0, 1), (0, 1), (0, 1, 2))))
        self.no_way(with_mover(leads=((0,), (0, 1), (0, 1, 2))))
        self.no_way(with_mover(cells=(2, 5, 1)))
        self.no_way(with_mover(cells=(5, 2, 2)))
        self.no_way(with_mover(cells=(2, 5), leads=((0, 1), (1,)), posts=((0,),)))
        self.no_way(with_parts(movers=(), posts=()))
        self.no_way(with_parts(movers=(MOVER, MOVER), posts=((0, 2), (0, 2))))

    def test_most(self):
        self.one_way(with_parts(most=0))
        self.one_way(WHOLE, with_parts(most=2))

    def test_start_cells(self):
        self.one_way(with_parts(cells=(3, 7)))
        self.one_way(with_parts(cells=(4,)))
        self.one_way(WHOLE, with_parts(cells=(3, 4, 6, 7)))
        self.no_way(with_parts(cells=(3, 4, 6)))

    def test_start_posts(self):
        self.one_way(with_parts(posts=((0,),)))
        self.one_way(WHOLE, with_parts(posts=((0, 1, 2),)))
        self.no_way(with_parts(posts=((0, 1),)))
        two = {"movers": (MOVER, MOVER)}
        self.one_way(with_parts(posts=((0,), (0, 2)), **two), with_parts(posts=((0, 2), (0, 2)), **two))
        self.no_way(with_parts(posts=((0,), (0, 2)), **two), with_parts(posts=((0, 2), (2,)), **two))

    def test_one_part_tighter_and_one_looser(self):
        self.no_way(with_parts(most=0, cells=(3, 4, 6, 7)))
        self.no_way(with_parts(most=2, posts=((0,),)))
        self.one_way(with_parts(most=0, cells=(3, 4), posts=((2,),)))


# Pairs of a tighter book and one for which there is a policy.
RIGHT_PAIRS = (
    (book(plan=("..a",), cells=(1,), task=("at", 1)), book(plan=("..a",), cells=(0, 1), task=("at", 1))),
    (book(plan=("..a",), cells=(0,), task=("at", 1)),
     book(plan=("..a",), cells=(0,), pushes=(((0,), (0, 0)), PLAIN[1]), task=("at", 1))),
    (book(plan=("1a2", "..."), cells=(4,), rules=(("least", 1, (2,)),), sensors=(("range", 0, 1, 0),), task=("at", 1)),
     book(plan=("1a2", "..."), cells=(3, 4), sensors=(("range", 0, 1, 1),), task=("at", 1))),
    (book(plan=(".a",), cells=(0,), faults=(("drift", EAST, (0, 0)),), most=0, task=("at", 1)),
     book(plan=(".a",), cells=(0, 1), faults=(("drift", EAST, (0, 0)),), most=1, task=("at", 1))),
)


class TestCarried(AnswerCase):

    def test_the_same_model(self):
        for made, _ in RIGHT_PAIRS:
            model = model_of(made)
            policy = find_policy(model[3], task_goals(model), model[4])
            self.answers(policy, carried, policy, model, model)
        self.answers((), carried, (), model, model)

    def test_worlds_that_are_left_out(self):
        model = made_model(line_table(3), (0,))
        second = model[:1] + (model[1][1:],) + model[2:]
        self.answers((((0,), 1, 2), ((0, 1), 7, 0)), carried, (((0, 1), 1, 2), ((1, 2), 7, 0)), model, second)

    def test_a_belief_that_becomes_empty(self):
        model = made_model(line_table(3), (0,))
        second = model[:1] + (model[1][:1],) + model[2:]
        self.answers((), carried, (((1,), 1, 2), ((1, 2), 2, 3)), model, second)
        self.answers((((0,), 2, 3),), carried, (((1,), 1, 2), ((0, 2), 2, 3)), model, second)

    def test_order_and_entries_that_stand_twice(self):
        model = made_model(line_table(3), (0,))
        second = model[:1] + (model[1][1:],) + model[2:]
        policy = (((1, 2), 5, 1), ((0, 1), 1, 2), ((1,), 1, 2), ((0,), 3, 3), ((1, 2), 5, 1))
        self.answers((((0, 1), 5, 1), ((0,), 1, 2), ((0,), 1, 2), ((0, 1), 5, 1)), carried, policy, model, second)

    def test_right_where_the_policy_was(self):
        many = 0
        for less, more in RIGHT_PAIRS + tuple((made, made) for made in VARIED[:2]):
            self.says(True, tighter, less, more)
            model, second = model_of(more), model_of(less)
            try:
                policy = find_policy(model[3], task_goals(model), model[4])
            except NotBorne:
                continue
            many += 1
            steps = steps_of(model[3], task_goals(model), model[4])
            found = carried(policy, model, second)
            self.answers(found, carried, policy, model, second)
            self.says(True, judge_policy, second[3], task_goals(second), second[4], steps, found)
            self.assertTrue(all(is_belief(second[3], belief) for belief, _, _ in found))
        self.assertGreaterEqual(many, 4)


class TestPlaces(AnswerCase):

    def test_what_happens_by_a_tighter_book_happens_by_the_other_one_too(self):
        for less, more in RIGHT_PAIRS:
            model, second = model_of(more), model_of(less)
            self.assertLessEqual(set(second[1]), set(model[1]))
            for world, row in zip(second[1], second[3]):
                for pairs, others in zip(row, model[3][model[1].index(world)]):
                    told = {(model[2][reading], model[1][behind]) for reading, behind in others if reading != -1}
                    self.assertLessEqual(
                        {(second[2][reading], second[1][behind]) for reading, behind in pairs if reading != -1}, told)
                    self.assertTrue(pairs[0][0] != -1 or others[0][0] == -1)


if __name__ == "__main__":
    unittest.main()
