import unittest

from doubtborne.errors import TooMany
from doubtborne.modelgoals import cell_goals, map_goals, task_goals
from doubtborne.models import model_of
from doubtborne.seeing import seen_by, sensor_sets
from doubtborne.sets import minimal_of
from doubtborne.tables import is_table
from doubtborne.webs import steps_of
from tests.answers import TOUCH, AnswerCase, subsets
from tests.sample_books import VARIED, book
from tests.sample_tables import MOST_WEBS, TOO_LARGE_WEBS, chosen_table, made_model, web_by_definition

LIMIT = {"limit": 400}
NORTH_1, NORTH_2 = ("range", 0, 1, 0), ("range", 0, 2, 0)
# Whether the gate in the north is open can be seen from beside it, by the first sensor alone.
LOOKING = book(plan=("1.", ".."), sensors=(NORTH_1, ("bump",)), cells=(1, 3))
# Two values for each reading: the first one tells nothing, the second one tells which of two worlds it is.
TOLD = made_model(
    ((((0, 0),),), (((1, 1),),)), (0, 1), readings=((7, 0), (7, 1)))


def seen_by_definition(model, kept):
    """The model with the readings that the kept sensors show: point 45, word for word."""
    _, worlds, readings, table, start, goal = model
    shown = [[[None if reading == -1 else tuple(readings[reading][sensor] for sensor in kept), behind]
              for reading, behind in pairs] for row in table for pairs in row]
    left = sorted({reading for pairs in shown for reading, _ in pairs if reading is not None})
    numbered = iter([
        tuple(sorted({TOUCH if reading is None else (left.index(reading), behind) for reading, behind in pairs}))
        for pairs in shown])
    return ("model", worlds, tuple(left), tuple(tuple(next(numbered) for _ in row) for row in table), start, goal)


class TestSeenBy(AnswerCase):

    def test_all_kept(self):
        for made in VARIED + (LOOKING,):
            model = model_of(made)
            self.answers(model, seen_by, model, tuple(range(len(made[3]))))

    def test_none_kept(self):
        for made in VARIED + (LOOKING,):
            model = seen_by(model_of(made), ())
            self.assertEqual(model[2], ((),))
            self.assertTrue(all(reading in (-1, 0) for row in model[3] for pairs in row for reading, _ in pairs))

    def test_one_of_two(self):
        seen = seen_by(TOLD, (0,))
        self.assertEqual(seen[2:4], (((7,),), ((((0, 0),),), (((0, 1),),))))
        seen = seen_by(TOLD, (1,))
        self.assertEqual(seen[2:4], (((0,), (1,)), TOLD[3]))

    def test_readings_that_become_one_and_the_table_numbered_anew(self):
        table = (((TOUCH, (0, 1), (1, 1), (2, 0), (3, 1)), ((1, 0),)), (((0, 0), (3, 0), (3, 1)), ((2, 1), (3, 1))))
        model = made_model(table, (0,), (1,), readings=((0, 5), (0, 8), (1, 5), (2, 5)))
        self.answers(
            model[:2] + (((5,), (8,)), (
                ((TOUCH, (0, 0), (0, 1), (1, 1)), ((1, 0),)), (((0, 0), (0, 1)), ((0, 1),))), (0,), (1,)),
            seen_by, model, (1,))
        self.answers(
            model[:2] + (((0,), (1,), (2,)), (
                ((TOUCH, (0, 1), (1, 0), (2, 1)), ((0, 0),)), (((0, 0), (2, 0), (2, 1)), ((1, 1), (2, 1)))),
                (0,), (1,)),
            seen_by, model, (0,))

    def test_each_step_touches(self):
        model = made_model((((TOUCH,), (TOUCH,)),), (0,), readings=())
        for kept in ((), (0,), (0, 1)):
            self.answers(model, seen_by, model, kept)

    def test_by_the_definition(self):
        for made in VARIED + (LOOKING,):
            model = model_of(made)
            for kept in subsets(range(len(made[3]))):
                seen = seen_by_definition(model, kept)
                self.answers(seen, seen_by, model, kept)
                self.ascends(seen[2])
                self.says(True, is_table, seen[3])


class TestSensorSets(AnswerCase):

    def test_the_empty_set_alone(self):
        model = model_of(VARIED[0])
        self.answers(((),), sensor_sets, model, 0, task_goals(model), 0)
        self.answers(((),), sensor_sets, TOLD, 2, ((0, 1),), 0)

    def test_one_is_needed(self):
        model = model_of(book(plan=("1.", ".."), sensors=(NORTH_1, ("mark", ())), cells=(1, 3)))
        self.answers(((0,),), sensor_sets, model, 2, map_goals(model), 2)
        self.answers(((1,),), sensor_sets, TOLD, 2, ((0,), (1,)), 1)

    def test_one_of_two_equal_ones(self):
        model = model_of(book(plan=("1.", ".."), sensors=(NORTH_1, NORTH_1), cells=(1, 3)))
        self.answers(((0,), (1,)), sensor_sets, model, 2, map_goals(model), 2)

    def test_one_of_several(self):
        model = model_of(book(plan=("1.", ".."), sensors=(("bump",), NORTH_1, NORTH_2), cells=(1, 3)))
        found = sensor_sets(model, 3, map_goals(model), 400)
        self.ascends(found)
        self.assertEqual(found, ((0,), (1,), (2,)))

    def test_two_are_needed(self):
        # Each of the two sensors tells two of the four worlds from the others.
        table = tuple(((((number, number),),)) for number in range(4))
        model = made_model(table, (0, 1, 2, 3), readings=((0, 0, 1), (0, 1, 1), (1, 0, 1), (1, 1, 2)))
        goals = ((0,), (1,), (2,), (3,))
        self.answers(((0, 1),), sensor_sets, model, 3, goals, 1)
        self.answers(((0, 1),), sensor_sets, model, 3, goals, 400)
        self.answers(((0, 1), (2,)), sensor_sets, model, 3, ((0, 1, 2), (3,)), 1)
        self.answers(((0, 1), (0, 2)), sensor_sets, model, 3, ((0, 1), (2,), (3,)), 1)

    def test_none(self):
        model = model_of(book(plan=("1.", ".."), sensors=(("mark", ()),), cells=(1, 3)))
        self.answers((), sensor_sets, model, 1, map_goals(model), 400)
        self.answers((), sensor_sets, TOLD, 2, (), 400)

    def test_steps(self):
        model = model_of(LOOKING)
        goals = map_goals(model)
        for steps, found in ((0, ()), (1, ()), (2, ((0,), (1,))), (400, ((0,), (1,)))):
            self.answers(found, sensor_sets, model, 2, goals, steps)
        model = model_of(book(plan=("1.", ".."), sensors=(NORTH_1, ("bump",)), cells=(2,)))
        for steps, found in ((0, ()), (1, ((0,), (1,))), (400, ((0,), (1,)))):
            self.answers(found, sensor_sets, model, 2, map_goals(model), steps)
        self.answers((), sensor_sets, TOLD, 2, ((0,), (1,)), 0)

    def test_by_the_definition(self):
        for made in VARIED[1:3] + (LOOKING,):
            model = model_of(made)
            many = len(made[3])
            for goals in (map_goals(model), cell_goals(model)):
                for steps in (0, 1, 2, 3, 400):
                    self.compare(model, many, goals, steps)

    def compare(self, model, many, goals, steps):
        """What is found agrees with each set by itself."""
        try:
            told = {some: steps_of(seen_by(model, some)[3], goals, model[4]) for some in subsets(range(many))}
        except TooMany:
            self.raises(TooMany, LIMIT, sensor_sets, model, many, goals, steps)
            return
        enough = [some for some in told if told[some] is not None and told[some] <= steps]
        self.answers(minimal_of(tuple(enough)), sensor_sets, model, many, goals, steps)
        for some in told:
            lies = any(set(one) <= set(some) for one in sensor_sets(model, many, goals, steps))
            self.assertEqual(lies, some in enough)


class TestLimit(AnswerCase):

    def test_too_many_without_a_sensor(self):
        # With the sensor one knows in which of the two cycles one is.
        for table, start in (TOO_LARGE_WEBS[0], MOST_WEBS[1]):
            told = tuple(((((0 if world < 16 else 1), pairs[0][1]),),) for world, (pairs,) in enumerate(table))
            model = made_model(told, start, readings=((0,), (1,)))
            self.assertLess(len(web_by_definition(told, (), start)), 100)
            if start == (0, 16):
                self.answers((), sensor_sets, model, 1, (), 400)
            else:
                self.raises(TooMany, LIMIT, sensor_sets, model, 1, (), 400)
                self.raises(TooMany, LIMIT, sensor_sets, model, 1, (start[:1], start[1:]), 400)

    def test_too_many_with_a_sensor_also_where_none_would_do(self):
        for worlds, many in ((27, 381), (28, 409)):
            table = chosen_table(worlds)
            last = max(shown for pairs in table[:-1] for shown, _ in pairs[0])
            model = made_model(
                table, tuple(range(worlds)), readings=tuple((reading,) for reading in range(last + 1)))
            goals = ((worlds,),)
            self.assertEqual(steps_of(seen_by(model, ())[3], goals, model[4]), 1)
            self.assertEqual(len(web_by_definition(table, goals, model[4])), many - 1)
            if many - 1 > 400:
                self.raises(TooMany, LIMIT, sensor_sets, model, 1, goals, 1)
            else:
                self.answers(((),), sensor_sets, model, 1, goals, 1)


if __name__ == "__main__":
    unittest.main()
