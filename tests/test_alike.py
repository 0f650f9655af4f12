import unittest
from itertools import combinations, permutations, product

from doubtborne.alike import alike_places, parting_sensors, places_that_fit
from doubtborne.errors import TooMany
from doubtborne.readings import readings_at
from tests.answers import (
    MIXED, MIXED_SETTINGS, AnswerCase, every_setting, free_by_sign, subsets)

EAST = ("range", 1, 4, 0)
WEST = ("range", 3, 4, 0)
MARK = ("mark", ())
BUMP = ("bump",)
NEAR = ("near", 1, 16)
VAGUE = ("range", 0, 2, 1)
MANY = (EAST, ("mark", ((0, 3), (1, 0))), BUMP, VAGUE)
# 60 free cells, and 61.
SIXTY = ("." * 8,) * 7 + ("....####",)
SIXTY_ONE = ("." * 8,) * 7 + (".....###",)
# One cell that is always free, and one that is free only if the sixth door is open.
TWO_CELLS = (".6",)


def cases_with(many):
    """Settings in which there are so many places, from 59 to 64, of two cells."""
    shut = [setting for setting in every_setting(6) if setting[5] == 0]
    opened = [setting for setting in every_setting(6) if setting[5] == 1]
    alone = 32 - many % 2
    return tuple(sorted(shut[:alone] + opened[:(many - alone) // 2]))


def places_of(plan, cases):
    """All pairs of one of the cases and a cell that is free in it."""
    return [(case, cell) for case in cases for cell in free_by_sign(plan, case)]


def readings_of(plan, place, sensors):
    """All readings that fit the place."""
    return set(readings_at(plan, place[0], sensors, (None,) * len(sensors), place[1], (), 0))


def alike_by_definition(plan, cases, sensors):
    """All pairs of places that some reading fits both of, one by one."""
    shown = {place: readings_of(plan, place, sensors) for place in places_of(plan, cases)}
    return tuple((p, q) for p, q in combinations(sorted(shown), 2) if shown[p] & shown[q])


def parting_by_definition(plan, cases, sensors):
    """All minimal sets of parting sensors, one by one."""
    def parts(some):
        pairs = alike_by_definition(plan, cases, tuple(sensors[number] for number in some))
        return all(p[1] == q[1] for p, q in pairs)
    found = [some for some in subsets(range(len(sensors))) if parts(some)]
    return tuple(sorted(some for some in found if not any(set(other) < set(some) for other in found)))


class TestPlacesThatFit(AnswerCase):

    def test_ordinary(self):
        self.answers((((), 1),), places_that_fit, ("...#",), ((),), (WEST,), (1,))
        self.answers((((), 0), ((), 1)), places_that_fit, ("..", "##"), ((),), (MARK,), (0,))

    def test_no_settings(self):
        self.answers((), places_that_fit, ("...",), (), (MARK,), (0,))
        self.answers((), places_that_fit, ("...",), (), (), ())

    def test_no_sensor_fits_all_places(self):
        self.answers((((0,), 0), ((1,), 0), ((1,), 1)), places_that_fit, (".1",), ((0,), (1,)), (), ())

    def test_no_place(self):
        self.answers((), places_that_fit, ("#*!",), ((),), (), ())

    def test_several_settings(self):
        plan = ("..1.",)
        self.answers((((0,), 0), ((1,), 2)), places_that_fit, plan, ((0,), (1,)), (EAST,), (1,))
        self.answers((((0,), 1), ((0,), 3), ((1,), 3)), places_that_fit, plan, ((0,), (1,)), (EAST,), (0,))
        self.answers((((1,), 0),), places_that_fit, plan, ((0,), (1,)), (EAST,), (3,))

    def test_a_cell_must_be_free(self):
        self.answers((((0,), 0), ((0,), 1), ((1,), 0)), places_that_fit, (".A",), ((0,), (1,)), (MARK,), (0,))

    def test_no_movers_and_no_bump(self):
        self.answers((((), 0),), places_that_fit, (".",), ((),), (BUMP, NEAR), (0, 0))
        self.answers((), places_that_fit, (".",), ((),), (BUMP, NEAR), (1, 0))
        self.answers((), places_that_fit, (".",), ((),), (BUMP, NEAR), (0, 1))

    def test_a_reading_that_fits_no_place(self):
        self.answers((), places_that_fit, ("...",), ((),), (MARK,), (8,))
        self.answers((), places_that_fit, ("...",), ((),), (MARK,), (-1,))

    def test_more_places_than_60(self):
        self.answers(tuple(((), cell) for cell in range(61)), places_that_fit, SIXTY_ONE, ((),), (MARK,), (0,))
        plan = ("......", "123456")
        found = places_that_fit(plan, every_setting(6), (MARK,), (0,))
        self.assertEqual(len(found), 64 * 6 + 32 * 6)
        self.ascends(found)

    def test_by_the_definition(self):
        readings = product(range(5), range(4), range(2), range(3))
        for reading in readings:
            expected = tuple(
                place for place in places_of(MIXED, MIXED_SETTINGS)
                if reading in readings_of(MIXED, place, MANY))
            self.answers(expected, places_that_fit, MIXED, MIXED_SETTINGS, MANY, reading)


class TestOrderOfSettings(AnswerCase):
    """Settings in another order, or handed in twice, give the places that they give in order."""

    def orders(self):
        settings = ((0, 0), (0, 1), (1, 1))
        return list(permutations(settings)) + [settings + settings[1:], settings[::-1] + settings[:2]]

    def test_places_that_fit(self):
        for cases in self.orders():
            for reading in ((0, 0), (1, 0), (2, 0), (0, 1), (1, 1)):
                expected = places_that_fit(MIXED, self.orders()[0], (EAST, MARK), reading)
                self.ascends(expected)
                self.answers(expected, places_that_fit, MIXED, cases, (EAST, MARK), reading)

    def test_alike_places(self):
        for cases in self.orders():
            expected = alike_by_definition(MIXED, self.orders()[0], (EAST, MARK))
            self.ascends(expected)
            self.answers(expected, alike_places, MIXED, cases, (EAST, MARK))

    def test_parting_sensors(self):
        for cases in self.orders():
            expected = parting_by_definition(("a1.", ".2b"), self.orders()[0], (EAST, WEST, MARK))
            self.answers(expected, parting_sensors, ("a1.", ".2b"), cases, (EAST, WEST, MARK))

    def test_only_different_places_count(self):
        self.raises(TooMany, {"limit": 60}, alike_places, SIXTY_ONE, ((), ()), ())
        self.assertEqual(len(alike_places(SIXTY, ((), ()), ())), 60 * 59 // 2)


class TestAlikePlaces(AnswerCase):

    def test_ordinary(self):
        self.answers(((((), 0), ((), 2)),), alike_places, (".a.",), ((),), (MARK,))
        self.answers((), alike_places, ("..a",), ((),), (EAST,))

    def test_no_settings(self):
        self.answers((), alike_places, ("...",), (), (MARK,))

    def test_no_sensor_makes_all_alike(self):
        places = [((), 0), ((), 1), ((), 2)]
        self.answers(tuple(combinations(places, 2)), alike_places, ("...",), ((),), ())

    def test_one_place_has_no_pair(self):
        self.answers((), alike_places, (".#",), ((),), ())

    def test_one_cell_in_two_settings(self):
        self.answers(((((0,), 0), ((1,), 0)),), alike_places, (".1",), ((0,), (1,)), (("range", 3, 1, 0), WEST))
        self.answers((), alike_places, (".1",), ((0,),), (MARK,))

    def test_all_sensors_must_agree_on_one_value(self):
        plan = (".b", "#a")
        self.answers(((((), 0), ((), 1)),), alike_places, plan, ((),), (("mark", ((0, 2),)),))
        self.answers((), alike_places, plan, ((),), (("mark", ((0, 2),)), WEST))

    def test_a_common_value_need_not_be_the_true_one_of_either(self):
        confused = ("mark", ((1, 3), (2, 3)))
        self.answers(((((), 0), ((), 1)),), alike_places, ("ab",), ((),), (confused,))

    def test_alike_is_not_handed_on(self):
        sensor = ("range", 1, 4, 1)
        pairs = tuple((((), cell), ((), cell + more)) for cell in range(5) for more in (1, 2) if cell + more < 5)
        self.answers(pairs, alike_places, (".....",), ((),), (sensor,))

    def test_movers_and_bumps_tell_nothing(self):
        self.answers(((((), 0), ((), 1)),), alike_places, ("..",), ((),), (BUMP, NEAR))

    def test_60_places(self):
        found = alike_places(SIXTY, ((),), (MARK,))
        self.assertEqual(len(found), 60 * 59 // 2)
        self.ascends(found)
        self.assertEqual(alike_places(SIXTY, ((),), ()), found)

    def test_61_places(self):
        self.raises(TooMany, {"limit": 60}, alike_places, SIXTY_ONE, ((),), (MARK,))
        self.raises(TooMany, {"limit": 60}, alike_places, SIXTY_ONE, ((),), ())

    def test_places_of_several_settings_are_counted_together(self):
        plan = (".....1", "......", "2....C")
        cases = every_setting(3)[:4]
        self.answers(alike_by_definition(plan, cases[:3], MANY), alike_places, plan, cases[:3], MANY)
        self.raises(TooMany, {"limit": 60}, alike_places, plan, cases, MANY)

    def test_60_and_61_places_of_two_cells(self):
        for many in (59, 60):
            self.assertEqual(len(places_of(TWO_CELLS, cases_with(many))), many)
            found = alike_places(TWO_CELLS, cases_with(many), (MARK,))
            self.assertEqual(len(found), many * (many - 1) // 2)
        self.assertEqual(len(places_of(TWO_CELLS, cases_with(61))), 61)
        self.raises(TooMany, {"limit": 60}, alike_places, TWO_CELLS, cases_with(61), (MARK,))

    def test_by_the_definition(self):
        for sensors in subsets(MANY):
            for cases in (MIXED_SETTINGS[:1], MIXED_SETTINGS[1:3], MIXED_SETTINGS):
                self.answers(alike_by_definition(MIXED, cases, sensors), alike_places, MIXED, cases, sensors)


class TestPartingSensors(AnswerCase):

    def test_one_set(self):
        self.answers(((1,),), parting_sensors, ("....",), ((),), (MARK, EAST))

    def test_more_than_one_minimal_set(self):
        self.answers(((0,), (2,)), parting_sensors, ("....",), ((),), (EAST, MARK, WEST))
        south = ("range", 2, 4, 0)
        self.answers(((0, 1), (0, 2)), parting_sensors, ("...", "..."), ((),), (south, EAST, WEST))

    def test_order_of_tuples_and_not_of_lengths(self):
        plan = ("ab", "cd")
        south = ("range", 2, 1, 0)
        self.answers(((0, 1), (2,)), parting_sensors, plan, ((),), (EAST, south, MARK))

    def test_none_at_all(self):
        self.answers((), parting_sensors, ("..",), ((),), (MARK, BUMP, NEAR))
        self.answers((), parting_sensors, ("..",), ((),), ())
        self.answers((), parting_sensors, ("..",), ((),), (("range", 1, 1, 1),))

    def test_the_empty_set_parts_where_there_is_one_cell_at_most(self):
        self.answers(((),), parting_sensors, (".#",), ((),), (MARK, EAST))
        self.answers(((),), parting_sensors, (".#",), ((),), ())
        self.answers(((),), parting_sensors, ("##",), ((),), (MARK,))
        self.answers(((),), parting_sensors, ("..",), (), (MARK,))

    def test_one_cell_in_two_settings_need_not_be_parted(self):
        self.answers(((),), parting_sensors, (".1", "##"), ((0,),), (MARK,))
        plan, cases = ("a.#1",), ((0,), (1,))
        self.answers((), parting_sensors, plan, cases, (MARK,))
        self.answers(((0,),), parting_sensors, ("a#1",), cases, (MARK,))
        self.answers(((),), parting_sensors, (".#A",), ((1,),), (MARK,))

    def test_settings_can_make_cells_alike(self):
        plan = ("..1",)
        self.answers(((0,),), parting_sensors, plan, ((0,),), (EAST,))
        self.answers(((0,),), parting_sensors, plan, ((1,),), (EAST,))
        self.answers((), parting_sensors, plan, ((0,), (1,)), (EAST,))

    def test_several_sensors_together(self):
        south = ("range", 2, 4, 0)
        self.answers(((0, 1),), parting_sensors, ("...", "...", "..."), ((),), (EAST, south, BUMP))

    def test_60_places(self):
        south = ("range", 2, 4, 0)
        self.answers((), parting_sensors, SIXTY, ((),), (EAST, WEST, south, MARK))

    def test_61_places(self):
        self.raises(TooMany, {"limit": 60}, parting_sensors, SIXTY_ONE, ((),), (EAST,))
        self.raises(TooMany, {"limit": 60}, parting_sensors, SIXTY_ONE, ((),), ())

    def test_60_and_61_places_of_two_cells(self):
        sensors = (MARK, WEST, EAST, ("range", 3, 1, 0))
        self.answers(((1,), (3,)), parting_sensors, TWO_CELLS, cases_with(60), sensors)
        self.raises(TooMany, {"limit": 60}, parting_sensors, TWO_CELLS, cases_with(61), sensors)

    def test_by_the_definition(self):
        sensors = (EAST, ("range", 2, 2, 0), ("mark", ((0, 1),)), WEST)
        for some in subsets(sensors):
            for cases in (MIXED_SETTINGS[:1], MIXED_SETTINGS[2:], MIXED_SETTINGS):
                self.answers(parting_by_definition(MIXED, cases, some), parting_sensors, MIXED, cases, some)


if __name__ == "__main__":
    unittest.main()
