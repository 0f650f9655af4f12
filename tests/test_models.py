import unittest

from doubtborne.errors import TooMany
from doubtborne.models import model_of
from doubtborne.tables import is_belief, is_table
from doubtborne.worlds import outcomes, start_worlds
from tests.answers import TOUCH, AnswerCase
from tests.sample_books import (
    DONE, MOST_BOOKS, TOO_LARGE_BOOKS, VARIED, book, outcomes_by_definition, standing, starts_by_definition,
    worlds_by_definition)


def model_by_definition(made):
    """The model, part by part as point 31 tells it."""
    worlds = sorted(worlds_by_definition(made))
    steps = {world: [outcomes_by_definition(made, world, command) for command in range(5)] for world in worlds}
    readings = sorted({reading for told in steps.values() for _, pairs in told for reading, _ in pairs})
    table = tuple(
        tuple(
            ((TOUCH,) if touch else ()) + tuple((readings.index(r), worlds.index(w)) for r, w in pairs)
            for touch, pairs in steps[world])
        for world in worlds)
    start = tuple(worlds.index(world) for world in starts_by_definition(made))
    goal = tuple(number for number, world in enumerate(worlds) if world[4] == DONE)
    return ("model", tuple(worlds), tuple(readings), table, start, goal)


class TestModelOf(AnswerCase):

    def test_one_world(self):
        stay = (((0, 0),),) * 5
        self.answers(("model", (((), 0, (), (), DONE),), ((),), (stay,), (0,), (0,)), model_of,
                     book(plan=(".",)))

    def test_two_worlds(self):
        made = book(plan=(".a",), sensors=(("bump",),), task=("at", 1))
        worlds = (((), 0, (), (), ("at", 1)), ((), 0, (), (), DONE), ((), 1, (), (), DONE))
        table = (
            (((0, 0),), ((1, 0),), ((0, 2),), ((1, 0),), ((1, 0),)),
            (((0, 1),), ((1, 1),), ((0, 2),), ((1, 1),), ((1, 1),)),
            (((0, 2),), ((1, 2),), ((1, 2),), ((1, 2),), ((0, 1),)))
        self.answers(("model", worlds, ((0,), (1,)), table, (0,), (1, 2)), model_of, made)

    def test_the_touch_pair_comes_first(self):
        made = book(plan=("*..",), pushes=(((0,), (2,)), ((0,),)), cells=(1,))
        _, worlds, _, table, _, _ = model_of(made)
        self.assertEqual([world[1] for world in worlds], [1, 2])
        self.assertEqual(table[0][2], (TOUCH, (0, 1)))
        self.assertEqual(table[0][4], (TOUCH, (0, 1)))
        self.assertEqual(table[0][0], ((0, 0),))

    def test_a_touch_alone(self):
        made = book(plan=("*.*",), cells=(1,))
        stay, touch = ((0, 0),), (TOUCH,)
        self.assertEqual(model_of(made)[3], ((stay, stay, touch, stay, touch),))

    def test_readings_are_numbered_in_their_order(self):
        made = book(plan=("....",), sensors=(("range", 1, 4, 0), ("range", 3, 4, 0)))
        _, worlds, readings, table, _, _ = model_of(made)
        self.assertEqual(readings, ((0, 3), (1, 2), (2, 1), (3, 0)))
        self.assertEqual(table[0][2], ((2, 1),))
        self.assertEqual(table[3][0], ((0, 3),))

    def test_readings_that_do_not_occur_are_left_out(self):
        made = book(plan=("a.",), sensors=(("mark", ((1, 8), (5, 6))),))
        self.assertEqual(model_of(made)[2], ((0,), (1,), (8,)))

    def test_only_worlds_that_are_reached(self):
        made = book(plan=("..#.",), cells=(0,))
        self.assertEqual([world[1] for world in model_of(made)[1]], [0, 1])
        made = book(plan=("...",), movers=(standing(1),))
        self.assertEqual([world[1] for world in model_of(made)[1]], [0])

    def test_worlds_behind_what_is_done_are_reached(self):
        made = book(plan=("...",), task=DONE)
        self.assertEqual([world[1] for world in model_of(made)[1]], [0, 1, 2])
        made = book(plan=("a..",), task=("without", 1, ("at", 2)))
        self.assertEqual([world[1] for world in model_of(made)[1]], [0, 1, 2])

    def test_start(self):
        made = book(plan=("....",), cells=(1, 3))
        self.assertEqual(model_of(made)[4], (1, 3))

    def test_a_goal_that_is_empty(self):
        self.assertEqual(model_of(book(task=("fail",)))[5], ())
        self.assertEqual(model_of(book(task=("at", 1)))[5], ())

    def test_a_goal_of_all_worlds(self):
        self.assertEqual(model_of(book())[5], (0, 1))

    def test_by_the_definition(self):
        for made in VARIED:
            self.answers(model_by_definition(made), model_of, made)

    def test_several_hundred_worlds(self):
        task = ("then", ("at", 1), ("within", 24, ("at", 3)))
        made = book(plan=("..a1", ".A.b"), sensors=(("range", 0, 2, 1), ("mark", ((0, 1),))), task=task)
        model = model_of(made)
        self.assertTrue(300 < len(model[1]) <= 400, len(model[1]))
        self.answers(model_by_definition(made), model_of, made)

    def test_exactly_400(self):
        for made in MOST_BOOKS:
            self.assertEqual(len(worlds_by_definition(made)), 400)
            self.answers(model_by_definition(made), model_of, made)

    def test_more_than_400(self):
        for made, many in zip(TOO_LARGE_BOOKS, (401, 408, 447)):
            self.assertEqual(len(worlds_by_definition(made)), many)
        for made in TOO_LARGE_BOOKS:
            self.raises(TooMany, {"limit": 400}, model_of, made)

    def test_more_than_400_start_worlds(self):
        self.assertLess(len(start_worlds(TOO_LARGE_BOOKS[0])), 400)
        self.assertGreater(len(start_worlds(TOO_LARGE_BOOKS[3])), 400)

    def test_the_table_is_one(self):
        for made in VARIED + MOST_BOOKS:
            _, worlds, readings, table, start, goal = model_of(made)
            self.says(True, is_table, table)
            self.says(True, is_belief, table, start)
            for part in (worlds, readings, start, goal):
                self.ascends(part)
            self.assertEqual(set(map(len, table)), {5})
            self.assertEqual(len(table), len(worlds))

    def test_rows_are_the_outcomes(self):
        for made in VARIED:
            _, worlds, readings, table, _, _ = model_of(made)
            for world, row in zip(worlds, table):
                for command in range(5):
                    touch, pairs = outcomes(made, world, command)
                    self.assertEqual(touch == 1, TOUCH in row[command])
                    shown = [(readings[r], worlds[w]) for r, w in row[command] if r != -1]
                    self.assertEqual(tuple(shown), pairs)


if __name__ == "__main__":
    unittest.main()
