import unittest

from doubtborne.faults import broken_by, strikes
from tests.answers import AnswerCase, subsets

FAULTS = (("dead", 0), ("drift", 2, (0, 1)), ("wild", 1))
SENSORS = (("bump",), ("mark", ()), ("near", 0, 3))


class TestStrikes(AnswerCase):

    def test_no_fault(self):
        for most in range(4):
            self.answers(((),), strikes, (), most, ())

    def test_one_fault(self):
        self.answers(((),), strikes, FAULTS[:1], 0, ())
        self.answers(((), (0,)), strikes, FAULTS[:1], 1, ())
        self.answers(((0,),), strikes, FAULTS[:1], 1, (0,))

    def test_three_faults_and_nothing_struck(self):
        self.answers(((),), strikes, FAULTS, 0, ())
        self.answers(((), (0,), (1,), (2,)), strikes, FAULTS, 1, ())
        self.answers(((), (0,), (0, 1), (0, 2), (1,), (1, 2), (2,)), strikes, FAULTS, 2, ())
        self.answers(
            ((), (0,), (0, 1), (0, 1, 2), (0, 2), (1,), (1, 2), (2,)), strikes, FAULTS, 3, ())

    def test_what_has_struck_stays(self):
        self.answers(((1,),), strikes, FAULTS, 1, (1,))
        self.answers(((0, 1), (1,), (1, 2)), strikes, FAULTS, 2, (1,))
        self.answers(((0, 1), (0, 1, 2), (1,), (1, 2)), strikes, FAULTS, 3, (1,))
        self.answers(((0, 2),), strikes, FAULTS, 2, (0, 2))
        self.answers(((0, 1, 2), (0, 2)), strikes, FAULTS, 3, (0, 2))

    def test_all_have_struck(self):
        self.answers(((0, 1, 2),), strikes, FAULTS, 3, (0, 1, 2))
        self.answers(((0,),), strikes, FAULTS[:1], 3, (0,))

    def test_most_above_the_number_of_faults(self):
        self.answers(((), (0,), (0, 1), (1,)), strikes, FAULTS[:2], 3, ())

    def test_all_by_the_definition(self):
        for many in range(4):
            sets = subsets(range(many))
            for most in range(4):
                for struck in [some for some in sets if len(some) <= most]:
                    expected = tuple(sorted(
                        some for some in sets if set(struck) <= set(some) and len(some) <= most))
                    self.answers(expected, strikes, FAULTS[:many], most, struck)


class TestBrokenBy(AnswerCase):

    def test_no_sensor(self):
        self.answers((), broken_by, (), (), ())
        self.answers((), broken_by, (), (("drift", 1, ()),), (0,))

    def test_nothing_has_struck(self):
        self.answers((None, None, None), broken_by, SENSORS, FAULTS, ())
        self.answers((None, None, None), broken_by, SENSORS, (), ())

    def test_only_what_has_struck_breaks(self):
        self.answers(("dead", None, None), broken_by, SENSORS, FAULTS, (0,))
        self.answers((None, "wild", None), broken_by, SENSORS, FAULTS, (2,))
        self.answers(("dead", "wild", None), broken_by, SENSORS, FAULTS, (0, 2))

    def test_a_drift_breaks_no_sensor(self):
        self.answers((None, None, None), broken_by, SENSORS, FAULTS, (1,))
        self.answers((None, None, None), broken_by, SENSORS, (("drift", 2, ()),), (0,))

    def test_all_have_struck(self):
        self.answers(("dead", "wild", None), broken_by, SENSORS, FAULTS, (0, 1, 2))

    def test_wild_comes_ahead_of_dead(self):
        for faults in ((("wild", 1), ("dead", 1)), (("dead", 1), ("wild", 1))):
            both = {faults[0][0]: 0, faults[1][0]: 1}
            self.answers((None, "wild", None), broken_by, SENSORS, faults, (0, 1))
            self.answers((None, "wild", None), broken_by, SENSORS, faults, (both["wild"],))
            self.answers((None, "dead", None), broken_by, SENSORS, faults, (both["dead"],))

    def test_each_sensor_by_itself(self):
        faults = (("dead", 0), ("wild", 2), ("wild", 0))
        self.answers(("wild", None, "wild"), broken_by, SENSORS, faults, (0, 1, 2))
        self.answers(("dead", None, "wild"), broken_by, SENSORS, faults, (0, 1))

    def test_four_sensors(self):
        sensors = SENSORS + (("bump",),)
        self.answers((None, None, None, "dead"), broken_by, sensors, (("dead", 3),), (0,))


if __name__ == "__main__":
    unittest.main()
