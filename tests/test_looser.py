"""What the tighter bounds of a book let happen, the looser ones do, too."""

import unittest
from itertools import product

from doubtborne.alike import alike_places, parting_sensors, places_that_fit
from doubtborne.commands import ends_of, starts_of, sweeps, trails_of
from doubtborne.errors import Misfit
from doubtborne.faults import strikes
from doubtborne.meeting import first_meeting, least_wait
from doubtborne.movers import posts_after
from doubtborne.readings import fits_at, readings_at
from doubtborne.sensors import sensor_values
from doubtborne.tracking import tracked
from tests.answers import MIXED, MIXED_SETTINGS, every_mover, free_by_sign, subsets

CONFUSED = ((0, 1), (0, 4), (1, 0), (3, 8))
# Pairs of a tighter sensor and a looser one.
RANGES = [
    (("range", direction, far, less), ("range", direction, far, more))
    for direction, far in product(range(4), (1, 3, 4)) for more in range(5) for less in range(more + 1)]
MARKS = [(("mark", some), ("mark", CONFUSED)) for some in subsets(CONFUSED)]
NEARS = [
    (("near", inner, outer), ("near", low, high))
    for low, high in ((0, 3), (1, 4), (2, 2)) for inner in range(low, high + 1) for outer in range(inner, high + 1)]
PAIRS = RANGES + MARKS + NEARS
TRAILS = ((), (0,), (0, 0), (1,))
SETTING = MIXED_SETTINGS[1]


class TestLooser(unittest.TestCase):

    def lies_inside(self, tighter, looser):
        self.assertLessEqual(set(tighter), set(looser))

    def test_values(self):
        for tight, loose in PAIRS:
            for broken, cell, others in product((None, "dead", "wild"), free_by_sign(MIXED, SETTING), ((), (8, 17))):
                self.lies_inside(
                    sensor_values(MIXED, SETTING, tight, broken, cell, others, 0),
                    sensor_values(MIXED, SETTING, loose, broken, cell, others, 0))

    def test_readings(self):
        for number in range(len(MARKS)):
            pairs = (RANGES[3 * number], MARKS[number], (("bump",), ("bump",)), NEARS[number])
            tight, loose = zip(*pairs)
            for cell, bumped in product(free_by_sign(MIXED, SETTING), (0, 1)):
                found = readings_at(MIXED, SETTING, tight, (None,) * 4, cell, (9,), bumped)
                self.lies_inside(found, readings_at(MIXED, SETTING, loose, (None,) * 4, cell, (9,), bumped))
                for reading in found:
                    self.assertTrue(fits_at(MIXED, SETTING, loose, (None,) * 4, cell, (9,), bumped, reading))

    def test_places(self):
        for tight, loose in RANGES[::7] + MARKS:
            for value in range(5):
                self.lies_inside(
                    places_that_fit(MIXED, MIXED_SETTINGS, (tight,), (value,)),
                    places_that_fit(MIXED, MIXED_SETTINGS, (loose,), (value,)))
            self.lies_inside(
                alike_places(MIXED, MIXED_SETTINGS, (tight,)), alike_places(MIXED, MIXED_SETTINGS, (loose,)))

    def test_what_parts_for_looser_sensors_parts_for_tighter_ones(self):
        plan = ("...", "..#")
        for number in range(len(MARKS)):
            tight, loose = zip(*(RANGES[number], RANGES[-1 - number], RANGES[60 + number]))
            few = parting_sensors(plan, ((),), tight)
            for some in parting_sensors(plan, ((),), loose):
                self.assertTrue(any(set(other) <= set(some) for other in few))

    def test_trails_and_ends(self):
        for dry, slick in product(subsets(TRAILS)[1:], repeat=2):
            loose = (TRAILS, TRAILS)
            for cell, command in product(free_by_sign(MIXED, SETTING), range(5)):
                rest = ((), (), cell, command)
                self.lies_inside(
                    trails_of(MIXED, (dry, slick), *rest), trails_of(MIXED, loose, *rest))
                touch, ends = ends_of(MIXED, SETTING, (dry, slick), *rest)
                other, others = ends_of(MIXED, SETTING, loose, *rest)
                self.assertLessEqual(touch, other)
                self.lies_inside(ends, others)
                self.lies_inside(
                    sweeps(MIXED, SETTING, (dry, slick), *rest), sweeps(MIXED, SETTING, loose, *rest))

    def test_starts(self):
        for dry in subsets(TRAILS)[1:]:
            for cell, command in product(free_by_sign(MIXED, SETTING), range(5)):
                self.lies_inside(
                    starts_of(MIXED, SETTING, (dry, dry[:1]), (), (), cell, command),
                    starts_of(MIXED, SETTING, (TRAILS, TRAILS), (), (), cell, command))

    def test_fewer_faults_at_most(self):
        faults = (("dead", 0), ("wild", 0), ("drift", 1, ()))
        for most in range(3):
            self.lies_inside(strikes(faults, most, ()), strikes(faults, most + 1, ()))

    def test_movers_with_fewer_ways_to_go(self):
        cells = (4, 5, 6)
        loose = ("mover", cells, ((0, 1), (1, 2), (0, 2)))
        for tight in every_mover(cells):
            if all(set(leads) <= set(more) for leads, more in zip(tight[2], loose[2])):
                for steps in range(6):
                    self.lies_inside(posts_after(tight, (1,), steps), posts_after(loose, (1,), steps))
                for cell in cells:
                    first = first_meeting(tight, (1,), cell)
                    self.assertTrue(first is None or first >= first_meeting(loose, (1,), cell))
                    most = least_wait(loose, (1,), (9, cell))
                    self.assertTrue(most is None or least_wait(tight, (1,), (9, cell)) <= most)

    def test_tracking(self):
        mover = ("mover", (0, 1, 3, 6), ((0, 1), (1, 2), (0, 2, 3), (3, 0)))
        for tight, loose in NEARS:
            for values in product((0, 1), repeat=4):
                try:
                    found = tracked(3, mover, (0, 2), tight, (1, 2, 5, 8), values)
                except Misfit as misfit:
                    self.no_earlier_misfit(misfit.at, mover, loose, values)
                    continue
                for few, more in zip(found, tracked(3, mover, (0, 2), loose, (1, 2, 5, 8), values)):
                    self.lies_inside(few, more)

    def no_earlier_misfit(self, at, mover, loose, values):
        """With the looser sensor nothing misfits ahead of the value with this number."""
        found = tracked(3, mover, (0, 2), loose, (1, 2, 5, 8)[:at], values[:at])
        self.assertEqual(len(found), at + 1)


if __name__ == "__main__":
    unittest.main()
