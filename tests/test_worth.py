import unittest

from doubtborne.errors import TooMany
from doubtborne.modelgoals import cell_goals, map_goals, task_goals
from doubtborne.models import model_of
from doubtborne.webs import steps_of
from doubtborne.worth import doors_worth_knowing, price_of_doubt
from tests.answers import SMALL_TABLE, TOUCH, AnswerCase
from tests.sample_books import VARIED, book
from tests.sample_tables import (
    MOST_WEBS, TOO_LARGE_WEBS, beliefs_of, ended_by_definition, line_table, made_model, steps_by_definition)
from tests.sample_tables import VARIED as TABLES

LIMIT = {"limit": 400}
GOAL = ((1,),)
# From the world 0 only the command 0 leads to the goal, from 1 only the command 1, and the other one touches.
FORKED = ((((0, 2),), (TOUCH,)), ((TOUCH,), ((0, 2),)), (((0, 2),), ((0, 2),)))


def common_by_definition(first, second):
    return tuple(sorted(set(first) & set(second)))


def worth_by_definition(model, goals):
    """The doors with which settling helps: point 52, word for word."""
    found = []
    for door in range(1, len(model[1][0][0]) + 1):
        parts = [tuple(world for world in model[4] if model[1][world][0][door - 1] == state) for state in (0, 1)]
        helps = all(part == () or steps_of(model[3], goals, part) is not None for part in parts)
        if helps and steps_of(model[3], goals, model[4]) is None:
            found.append(door)
    return tuple(found)


class TestPriceOfDoubt(AnswerCase):

    def test_no_parts(self):
        self.answers((1, ()), price_of_doubt, SMALL_TABLE, GOAL, (0,), ())
        self.answers((None, ()), price_of_doubt, SMALL_TABLE, GOAL, (0, 1), ())

    def test_a_part_that_has_nothing_in_common_with_the_start(self):
        self.answers((1, (0,)), price_of_doubt, SMALL_TABLE, GOAL, (0,), ((1,),))
        self.answers((None, (0,)), price_of_doubt, SMALL_TABLE, (), (0,), ((1,),))

    def test_a_part_that_contains_it(self):
        self.answers((1, (1, 1)), price_of_doubt, SMALL_TABLE, GOAL, (0,), ((0, 1), (0,)))
        self.answers((None, (None,)), price_of_doubt, FORKED, ((2,),), (0, 1), ((0, 1, 2),))

    def test_a_start_that_is_not_borne(self):
        self.answers((None, (1, 1, 0)), price_of_doubt, FORKED, ((2,),), (0, 1), ((0,), (1, 2), (2,)))
        self.answers((None, (1, 1, 0)), price_of_doubt, FORKED, ((2,),), (0, 1, 2), ((0,), (1, 2), (2,)))

    def test_steps(self):
        parts = ((4,), (1, 4), (0, 1, 2), (3, 4), (5,))
        self.answers((4, (0, 3, 4, 1, 0)), price_of_doubt, line_table(5), ((4,),), (0, 1, 2, 3, 4), parts)

    def test_order_and_parts_that_stand_twice(self):
        self.answers((4, (1, 4, 1)), price_of_doubt, line_table(5), ((4,),), (0, 3), ((3,), (0,), (3,)))

    def test_by_the_definition(self):
        for table, goals in TABLES[::2]:
            steps = steps_by_definition(table, goals)
            parts = tuple(beliefs_of(table))
            for start in beliefs_of(table):
                shared = [common_by_definition(start, part) for part in parts]
                told = tuple(steps.get(belief) if belief else 0 for belief in shared)
                self.answers((steps.get(start), told), price_of_doubt, table, goals, start, parts)
                if start in steps:
                    self.assertTrue(all(one is not None and one <= steps[start] for one in told))

    def test_too_many(self):
        table, start = MOST_WEBS[1]
        parts = ((start[0],), (start[1],), (5,))
        self.answers((None, (None, None, 0)), price_of_doubt, table, (), start, parts)
        for table, start in TOO_LARGE_WEBS:
            self.raises(TooMany, LIMIT, price_of_doubt, table, (), start, ())
            self.raises(TooMany, LIMIT, price_of_doubt, table, (), start, ((start[0],),))

    def test_too_many_for_a_part_alone(self):
        table, start = LARGE_PART
        self.answers(1, steps_of, table, PART_GOALS, start)
        self.raises(TooMany, LIMIT, price_of_doubt, table, PART_GOALS, start, ((0, 1, 2), start[:-1]))
        self.answers((1, (0, 1, 0)), price_of_doubt, table, PART_GOALS, start, ((0, 1, 2), start, start[-1:]))


def with_warning(table, start):
    """The table with one more world, from which each command but a last one touches, and with this last command.

    By the last command all of the worlds come to a goal, this one more world.
    """
    last = len(table)
    rows = [row + (((0, last),),) for row in table]
    return tuple(rows) + (((TOUCH,),) * len(table[0]) + (((0, last),),),), start + (last,)


# With the world that warns, only the last command can be given; without it there are too many beliefs.
LARGE_PART = with_warning(*TOO_LARGE_WEBS[0])
PART_GOALS = ((LARGE_PART[1][-1],),)


class TestDoorsWorthKnowing(AnswerCase):

    def knows(self, expected, made):
        model = model_of(made)
        self.answers(expected, doors_worth_knowing, model, task_goals(model))

    def test_no_doors(self):
        self.knows((), book())
        self.knows((), book(task=("fail",)))

    def test_doors_that_are_worth_knowing(self):
        self.knows((1,), EITHER)
        self.knows((1, 2), ONE_OF_TWO)

    def test_doors_that_are_not_since_the_start_is_borne(self):
        self.knows((), book(plan=("..a", "1.."), cells=(0,), task=("at", 1)))
        model = model_of(EITHER)
        self.answers((), doors_worth_knowing, model, (model[4],))

    def test_doors_that_are_not_since_one_of_the_two_is_not_borne(self):
        self.knows((), book(plan=("1a",), cells=(0,), task=("at", 1)))
        self.knows((), book(plan=(".1a",), cells=(0,), task=("at", 1)))
        self.knows((), book(plan=("AaB", ".#.", "..."), cells=(7,), task=("at", 1)))

    def test_a_door_that_is_open_in_all_worlds_of_the_start(self):
        rules = (("least", 1, (2,)),)
        self.knows((1,), book(plan=("1aA", ".#.", "..2"), cells=(7,), task=EITHER[9], rules=rules))
        self.knows((), book(plan=("1aA", ".#.", "..."), cells=(7,), task=EITHER[9], rules=(("least", 1, (1,)),)))

    def test_a_door_that_is_open_in_all_worlds_and_a_start_that_is_not_borne(self):
        self.answers((2,), doors_worth_knowing, forked_model(((1, 0), (1, 1))), ((2,),))
        self.answers((1,), doors_worth_knowing, forked_model(((0, 1), (1, 1))), ((2,),))
        self.answers((1, 2), doors_worth_knowing, forked_model(((0, 1), (1, 0))), ((2,),))
        self.answers((), doors_worth_knowing, forked_model(((1, 0), (1, 0))), ((2,),))
        self.answers((), doors_worth_knowing, forked_model(((0, 1), (1, 0))), ())
        self.answers((), doors_worth_knowing, forked_model(((0, 1), (1, 0))), ((0, 1),))

    def test_by_the_definition(self):
        found = set()
        for made in VARIED[:3] + (EITHER, ONE_OF_TWO):
            model = model_of(made)
            for goals in ((), task_goals(model), map_goals(model), cell_goals(model)):
                try:
                    expected = worth_by_definition(model, goals)
                except TooMany:
                    self.raises(TooMany, LIMIT, doors_worth_knowing, model, goals)
                    continue
                self.answers(expected, doors_worth_knowing, model, goals)
                self.ascends(expected)
                found.add(expected)
        self.assertGreaterEqual(found, {(), (1,), (1, 2)})

    def test_too_many(self):
        for (table, start), is_large in ((MOST_WEBS[1], False), (TOO_LARGE_WEBS[0], True)):
            # The two worlds of the start differ in the first door.
            settings = tuple((int(world == start[1]), 0) for world in range(len(table)))
            model = made_model(table, start, settings=settings)
            if is_large:
                self.raises(TooMany, LIMIT, doors_worth_knowing, model, ())
            else:
                self.answers((), doors_worth_knowing, model, ())

    def test_too_many_for_another_belief_alone(self):
        # The start has the world that warns, so it is borne; it differs from the others in the second door.
        table, start = LARGE_PART
        settings = tuple((0, int(world == start[-1])) for world in range(len(table)))
        model = made_model(table, start, settings=settings)
        self.assertFalse(ended_by_definition(PART_GOALS, start))
        self.raises(TooMany, LIMIT, doors_worth_knowing, model, PART_GOALS)
        self.answers((), doors_worth_knowing, made_model(table, start, settings=((0, 0),) * len(table)), PART_GOALS)


# The one way is there if the door is open, the other one is a hole then.
EITHER = book(plan=("1aA", ".#.", "..."), cells=(7,), task=("within", 4, ("at", 1)))
# Just one of the two lids is shut.
ONE_OF_TWO = book(plan=("AaB", ".#.", "..."), cells=(7,), task=("at", 1), rules=(
    ("least", 1, (1, 2)), ("most", 1, (1, 2))))


def forked_model(settings):
    """The model of the forked table with these settings of the two worlds of the start."""
    return made_model(FORKED, (0, 1), settings=settings + ((0, 0),))


if __name__ == "__main__":
    unittest.main()
