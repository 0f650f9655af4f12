import unittest
from itertools import product

from doubtborne.readings import fits_at, readings_at
from doubtborne.sensors import sensor_top, sensor_values
from tests.answers import AnswerCase

PLAN = ("a..b",)
FOUR = (("range", 1, 4, 1), ("mark", ((1, 0), (1, 3))), ("bump",), ("near", 0, 2))
SOUND = (None,) * 4
HOW = (None, "dead", "wild")


class TestReadingsAt(AnswerCase):

    def test_no_sensor(self):
        self.answers(((),), readings_at, PLAN, (), (), (), 0, (), 0)

    def test_one_sensor(self):
        self.answers(((2,), (3,), (4,)), readings_at, PLAN, (), FOUR[:1], (None,), 0, (), 0)
        self.answers(((1,),), readings_at, PLAN, (), (("bump",),), (None,), 0, (), 1)

    def test_four_sensors_ascending(self):
        expected = tuple(product((2, 3, 4), (0, 1, 3), (1,), (0, 1)))
        self.answers(expected, readings_at, PLAN, (), FOUR, SOUND, 0, (2, 3), 1)
        self.ascends(expected)

    def test_the_order_of_the_sensors_counts(self):
        sensors = (("bump",), ("mark", ()))
        self.answers(((1, 2),), readings_at, PLAN, (), sensors, (None, None), 3, (), 1)
        self.answers(((2, 1),), readings_at, PLAN, (), sensors[::-1], (None, None), 3, (), 1)

    def test_each_sensor_is_broken_by_itself(self):
        expected = tuple(product((0,), (0, 1, 3), (0, 1), (0,)))
        self.answers(expected, readings_at, PLAN, (), FOUR, ("dead", None, "wild", "dead"), 0, (0,), 1)

    def test_one_sensor_twice_shows_two_values(self):
        sensors = (("range", 1, 1, 1),) * 2
        self.answers(((0, 0), (0, 1), (1, 0), (1, 1)), readings_at, PLAN, (), sensors, (None, None), 0, (), 0)

    def test_settings_count(self):
        sensors = (("range", 1, 3, 0), ("mark", ()))
        self.answers(((0, 0),), readings_at, (".1..",), (0,), sensors, (None, None), 0, (), 0)
        self.answers(((3, 0),), readings_at, (".1..",), (1,), sensors, (None, None), 0, (), 0)

    def test_400_readings(self):
        sensors = (("range", 0, 4, 0), ("range", 1, 4, 0), ("range", 2, 3, 0), ("range", 3, 3, 0))
        expected = tuple(product(range(5), range(5), range(4), range(4)))
        self.assertEqual(len(expected), 400)
        self.answers(expected, readings_at, PLAN, (), sensors, ("wild",) * 4, 0, (), 0)
        self.ascends(readings_at(PLAN, (), sensors, ("wild",) * 4, 0, (), 0))

    def test_all_ways_of_breaking_by_the_definition(self):
        for broken in product(HOW, repeat=4):
            shown = [sensor_values(PLAN, (), sensor, how, 3, (2,), 1) for sensor, how in zip(FOUR, broken)]
            self.answers(tuple(product(*shown)), readings_at, PLAN, (), FOUR, broken, 3, (2,), 1)


class TestFitsAt(AnswerCase):

    def test_no_sensor(self):
        self.says(True, fits_at, PLAN, (), (), (), 0, (), 0, ())

    def test_one_sensor(self):
        for value in range(-1, 6):
            self.says(value in (2, 3, 4), fits_at, PLAN, (), FOUR[:1], (None,), 0, (), 0, (value,))

    def test_one_value_alone_differs(self):
        self.says(True, fits_at, PLAN, (), FOUR, SOUND, 0, (2,), 1, (2, 3, 1, 0))
        for reading in ((1, 3, 1, 0), (2, 2, 1, 0), (2, 3, 0, 0), (2, 3, 1, 2)):
            self.says(False, fits_at, PLAN, (), FOUR, SOUND, 0, (2,), 1, reading)

    def test_the_place_of_a_value_counts(self):
        sensors = (("bump",), ("mark", ()))
        self.says(True, fits_at, PLAN, (), sensors, (None, None), 3, (), 1, (1, 2))
        self.says(False, fits_at, PLAN, (), sensors, (None, None), 3, (), 1, (2, 1))

    def test_broken_sensors(self):
        broken = ("dead", "wild", "dead", "wild")
        self.says(True, fits_at, PLAN, (), FOUR, broken, 0, (), 1, (0, 8, 0, 1))
        self.says(False, fits_at, PLAN, (), FOUR, broken, 0, (), 1, (0, 8, 1, 1))
        self.says(False, fits_at, PLAN, (), FOUR, broken, 0, (), 1, (0, 9, 0, 1))

    def test_values_out_of_all_bounds(self):
        for value in (-1000, -1, 9, 1000):
            self.says(False, fits_at, PLAN, (), FOUR, ("wild",) * 4, 0, (), 0, (0, value, 0, 0))

    def test_exactly_the_readings_that_may_come(self):
        tried = list(product(*[range(sensor_top(sensor) + 1) for sensor in FOUR]))
        for broken in ((None,) * 4, ("dead", None, None, "wild"), ("wild", "dead", "wild", None)):
            for cell in (0, 3):
                come = readings_at(PLAN, (), FOUR, broken, cell, (1,), 1)
                for reading in tried:
                    self.says(reading in come, fits_at, PLAN, (), FOUR, broken, cell, (1,), 1, reading)


if __name__ == "__main__":
    unittest.main()
