import unittest
from itertools import product

from doubtborne.doubtsets import door_sets
from doubtborne.errors import TooMany
from doubtborne.modelgoals import cell_goals, map_goals, task_goals
from doubtborne.models import model_of
from doubtborne.webs import steps_of
from tests.answers import AnswerCase, every_setting, subsets
from tests.sample_books import VARIED, book
from tests.sample_tables import MOST_WEBS, TOO_LARGE_WEBS, made_model, web_by_definition

LIMIT = {"limit": 400}
# One goes to the mark by the one door or by the other one, and sees neither of them.
TWO_DOORS = book(plan=("1a2", ".#.", "..."), cells=(7,), task=("at", 1), sensors=(("bump",),))
# Whoever goes over a lid has to know that it is shut, for without a sensor one does not see it.
BLIND = book(plan=("AaB", ".#.", "..."), cells=(7,), task=("at", 1))
# By the one way one comes past the open door, by the other one past the shut one.
EITHER = book(plan=("1aA", ".#.", "..."), cells=(7,), task=("at", 1))
# No door is in the way; two of them cannot be reached at all.
ASIDE = book(plan=("..a#1", "####2"), cells=(0,), task=("at", 1))


def may_stay(model, goals, steps, setting, doors):
    """Whether a set of doors may stay: point 46, word for word."""
    belief = tuple(
        world for world in model[4]
        if all(model[1][world][0][door - 1] == setting[door - 1] for door in range(1, len(setting) + 1)
               if door not in doors))
    found = steps_of(model[3], goals, belief) if belief else 0
    return found is not None and found <= steps


def door_sets_by_definition(model, goals, steps, setting):
    """The maximal sets that may stay."""
    tried = subsets(range(1, len(setting) + 1))
    stay = [doors for doors in tried if may_stay(model, goals, steps, setting, doors)]
    return tuple(sorted(one for one in stay if not any(set(one) < set(other) for other in stay)))


class TestDoorSets(AnswerCase):

    def asks(self, expected, made, steps, setting):
        model = model_of(made)
        self.answers(expected, door_sets, model, task_goals(model), steps, setting)
        self.ascends(expected)

    def test_the_empty_tuple(self):
        self.asks((), BLIND, 400, (1, 1))
        self.asks((), BLIND, 3, (0, 0))
        self.asks((), book(task=("fail",)), 400, ())

    def test_the_empty_set_alone(self):
        self.asks(((),), book(plan=(".a",), task=("at", 1)), 1, ())
        for setting in ((0,), (1,)):
            self.asks(((),), EITHER, 4, setting)
            self.asks((), EITHER, 3, setting)

    def test_one_door(self):
        self.asks(((2,),), BLIND, 4, (0, 1))
        self.asks(((1,),), BLIND, 4, (1, 0))

    def test_several_maximal_sets(self):
        self.asks(((1,), (2,)), BLIND, 4, (0, 0))

    def test_all_doors(self):
        bumping = book(plan=("1a2", ".#.", "..."), cells=(7,), task=("at", 1), sensors=(("bump",),),
                       rules=(("least", 1, (1, 2)),))
        for setting in ((0, 1), (1, 0), (1, 1)):
            self.asks(((1, 2),), bumping, 400, setting)
            self.asks(((1, 2),), ASIDE, 2, setting)
            self.asks((), ASIDE, 1, setting)

    def test_a_setting_with_which_no_world_agrees(self):
        # Then not even one world has to be borne, but with a door more there may be one that is not.
        rules = (("least", 2, (1, 2)),)
        for steps in (0, 3):
            made = book(plan=("1a2", ".#.", "..."), cells=(7,), task=("at", 1), rules=rules)
            self.asks(((1,), (2,)), made, steps, (0, 0))
            self.asks(((1,),), made, steps, (1, 0))
            self.asks(((2,),), made, steps, (0, 1))
            self.asks((), made, steps, (1, 1))
        self.asks(((1, 2),), made, 4, (0, 0))

    def test_doors_that_cannot_be_reached(self):
        self.asks(((1, 2),), ASIDE, 2, (0, 0))
        self.asks(((1, 2, 3),), book(plan=("..a#1", "####3"), cells=(0,), task=("at", 1)), 400, (0, 0, 0))

    def test_steps(self):
        for steps in range(7):
            self.asks(((2,),) if steps >= 4 else (), BLIND, steps, (0, 1))
        for steps in range(12):
            found = model_of(TWO_DOORS)
            expected = door_sets_by_definition(found, task_goals(found), steps, (1, 1))
            self.asks(expected, TWO_DOORS, steps, (1, 1))

    def test_by_the_definition(self):
        found = set()
        for made in VARIED[:3] + (TWO_DOORS, BLIND, ASIDE):
            model = model_of(made)
            settings = every_setting(len(model[1][0][0]))
            for goals, steps, setting in product(
                    (task_goals(model), map_goals(model), cell_goals(model)), (0, 2, 5, 400), settings):
                if self.web_is_small(model, goals):
                    expected = door_sets_by_definition(model, goals, steps, setting)
                    self.answers(expected, door_sets, model, goals, steps, setting)
                    found.add(expected)
        self.assertGreaterEqual(found, {(), ((),), ((1,),), ((1,), (2,)), ((1, 2),)})

    def web_is_small(self, model, goals):
        """Whether the web of the whole start is; those of its parts are not larger for these models."""
        try:
            steps_of(model[3], goals, model[4])
        except TooMany:
            return False
        return True


class TestLimit(AnswerCase):

    def test_too_many_for_one_belief_alone(self):
        for (table, start), is_large in ((TOO_LARGE_WEBS[0], True), (MOST_WEBS[1], False)):
            # The two worlds of the start differ in the second door, and no other world counts.
            settings = [(0, 0)] * len(table)
            settings[start[1]] = (0, 1)
            model = made_model(table, start, settings=tuple(settings))
            self.assertEqual(len(web_by_definition(table, (), start)) > 400, is_large)
            self.assertLess(len(web_by_definition(table, (), start[:1])), 100)
            self.assertLess(len(web_by_definition(table, (), start[1:])), 100)
            for setting in every_setting(2):
                if is_large:
                    self.raises(TooMany, LIMIT, door_sets, model, (), 400, setting)
                else:
                    expected = door_sets_by_definition(model, (), 400, setting)
                    self.answers(expected, door_sets, model, (), 400, setting)

    def test_too_many_also_where_the_answer_could_be_known(self):
        table, start = TOO_LARGE_WEBS[0]
        settings = [(0,)] * len(table)
        settings[start[1]] = (1,)
        model = made_model(table, start, settings=tuple(settings))
        # With no goal not even one world of the start is borne.
        self.raises(TooMany, LIMIT, door_sets, model, (), 0, (0,))
        self.raises(TooMany, LIMIT, door_sets, model, (), 0, (1,))


if __name__ == "__main__":
    unittest.main()
