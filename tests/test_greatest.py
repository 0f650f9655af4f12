import unittest

from doubtborne.errors import TooMany
from doubtborne.greatest import greatest_error, greatest_most
from doubtborne.modelgoals import task_goals
from doubtborne.models import model_of
from doubtborne.webs import steps_of
from tests.answers import AnswerCase
from tests.sample_books import BATTERY, EAST, MOST_BOOKS, PLAIN, TOO_LARGE_BOOKS, VARIED, book

LIMIT = {"limit": 400}
TO_A = ("at", 1)


def between_glass(sensors, far=2):
    """The robot is on one of the two sides of the mark, so far from it; behind it there is glass."""
    line = "*." + "." * (far - 1) + "a" + "." * (far - 1) + ".*"
    return book(plan=(line,), sensors=sensors, task=TO_A, cells=(1, 1 + 2 * far))


def east(error, far=4):
    return ("range", 1, far, error)


def with_error(made, number, error):
    """The book with this error of this sensor."""
    sensors = list(made[3])
    sensors[number] = ("range", sensors[number][1], sensors[number][2], error)
    return made[:3] + (tuple(sensors),) + made[4:]


def greatest_by_definition(books, steps):
    """The greatest number up to which the starts of the books are borne; what these raise is raised."""
    found = None
    for number, made in enumerate(books):
        model = model_of(made)
        least = steps_of(model[3], task_goals(model), model[4])
        if least is None or least > steps:
            break
        found = number
    return found


# From 0 to 4: borne within 4 steps with the error 0; with a greater one the web is too large.
LARGE_BEHIND_0 = book(
    plan=(".#.a", "11..", ".1.*"), sensors=(("range", 1, 4, 0),), task=TO_A, cells=(2, 5, 7, 9))
# Borne within 2 steps with 0, 3 and 4; with 1 and 2 the web is too large.
LARGE_BETWEEN = book(plan=("..1", "a.#", ".1."), sensors=(("range", 1, 3, 0),), task=TO_A, cells=(1, 3, 5))


class TestGreatestError(AnswerCase):

    def test_one_between(self):
        self.answers(1, greatest_error, between_glass((east(0),)), 0, 400)
        self.answers(0, greatest_error, between_glass((east(0),), 1), 0, 400)

    def test_its_own_error_does_not_count(self):
        for error in range(5):
            self.answers(1, greatest_error, between_glass((east(error),)), 0, 400)

    def test_the_greatest(self):
        made = book(plan=(".a",), sensors=(east(0, 1),), task=TO_A)
        self.answers(4, greatest_error, made, 0, 1)
        self.answers(4, greatest_error, book(sensors=(east(2),)), 0, 0)

    def test_none(self):
        self.answers(None, greatest_error, between_glass((("range", 0, 4, 0),)), 0, 400)
        self.answers(None, greatest_error, book(plan=(".a",), sensors=(east(0, 1),), task=TO_A), 0, 0)
        self.answers(None, greatest_error, book(sensors=(east(0),), task=("fail",)), 0, 400)

    def test_steps(self):
        for steps in range(6):
            self.answers(1 if steps >= 3 else None, greatest_error, between_glass((east(0),)), 0, steps)

    def test_the_number_of_each_range_sensor(self):
        made = between_glass((("range", 0, 1, 0), ("bump",), east(0)))
        self.answers(4, greatest_error, made, 0, 400)
        self.answers(1, greatest_error, made, 2, 400)
        made = between_glass((("range", 0, 1, 0), ("bump",), east(3)))
        self.answers(None, greatest_error, made, 0, 400)
        self.answers(1, greatest_error, made, 2, 400)
        made = between_glass((("range", 0, 1, 0), east(0), ("range", 2, 1, 0)))
        self.assertEqual([greatest_error(made, number, 400) for number in range(3)], [4, 1, 4])
        # Of two sensors that look along the line one is enough.
        made = between_glass((east(1), ("range", 3, 4, 4)))
        self.answers(4, greatest_error, made, 1, 400)
        self.answers(1, greatest_error, made, 0, 400)
        # One that sees no farther than one cell tells glass beside the robot from none, but for an error.
        made = between_glass((east(2), ("range", 3, 1, 4)))
        self.answers(1, greatest_error, made, 0, 400)
        self.answers(0, greatest_error, made, 1, 400)

    def test_by_the_definition(self):
        for made in VARIED[2:3] + (between_glass((east(0), ("mark", ((0, 1),)))),):
            for number, sensor in enumerate(made[3]):
                if sensor[0] == "range":
                    books = [with_error(made, number, error) for error in range(5)]
                    for steps in (0, 1, 2, 3, 5, 400):
                        self.compare(books, made, number, steps)

    def compare(self, books, made, number, steps):
        """What is told agrees with trying one error after another."""
        try:
            expected = greatest_by_definition(books, steps)
        except TooMany:
            self.raises(TooMany, LIMIT, greatest_error, made, number, steps)
            return
        self.answers(expected, greatest_error, made, number, steps)

    def test_a_limit_that_is_met_at_a_number_that_is_tried(self):
        for steps in (4, 5, 400):
            self.raises(TooMany, LIMIT, greatest_error, LARGE_BEHIND_0, 0, steps)
        for steps in (2, 400):
            self.raises(TooMany, LIMIT, greatest_error, LARGE_BETWEEN, 0, steps)
        made = TOO_LARGE_BOOKS[0]
        self.raises(TooMany, LIMIT, greatest_error, made[:3] + ((east(0),),) + made[4:], 0, 0)

    def test_a_limit_behind_the_first_number_that_is_not_borne(self):
        for steps in range(4):
            self.answers(None, greatest_error, LARGE_BEHIND_0, 0, steps)
        for steps in range(2):
            self.answers(None, greatest_error, LARGE_BETWEEN, 0, steps)
        for made in (LARGE_BEHIND_0, LARGE_BETWEEN):
            model = model_of(with_error(made, 0, 1))
            self.raises(TooMany, LIMIT, steps_of, model[3], task_goals(model), model[4])


def beside_holes(faults, most=0):
    """A line to the mark with holes on both sides."""
    return book(plan=("!!!!", "...a", "!!!!"), cells=(4,), task=TO_A, faults=faults, most=most)


ASIDE = (("drift", EAST, (1,)), ("drift", EAST, (3,)))
STALLS = (("drift", EAST, ()), ("drift", 1, (0,)))


class TestGreatestMost(AnswerCase):

    def test_0(self):
        self.answers(0, greatest_most, beside_holes(ASIDE), 400)
        self.answers(0, greatest_most, beside_holes(ASIDE[:1]), 3)

    def test_its_own_number_does_not_count(self):
        for most in range(4):
            self.answers(0, greatest_most, beside_holes(ASIDE, most), 400)
            self.answers(2, greatest_most, beside_holes((("drift", 1, (1,)), ("drift", 3, ())), most), 400)

    def test_that_equals_the_number_of_faults(self):
        harmless = (("drift", 1, (1,)), ("drift", 3, ()), ("drift", 4, (0,)))
        for many in range(4):
            self.answers(many, greatest_most, beside_holes(harmless[:many]), 3)

    def test_between(self):
        # One dead sensor leaves another one of the same sort.
        dead = (("dead", 0), ("dead", 1))
        made = between_glass((east(0), east(0)))
        made = made[:6] + (dead,) + made[7:]
        self.answers(1, greatest_most, made, 400)
        self.answers(1, greatest_most, made, 5)

    def test_no_faults(self):
        self.answers(0, greatest_most, beside_holes(()), 3)
        self.answers(None, greatest_most, beside_holes(()), 2)
        self.answers(0, greatest_most, book(), 0)

    def test_none(self):
        self.answers(None, greatest_most, beside_holes(ASIDE), 2)
        self.answers(None, greatest_most, book(task=("fail",), faults=STALLS), 400)

    def test_by_the_definition(self):
        for made in VARIED + (beside_holes(STALLS), beside_holes(ASIDE)):
            books = [made[:7] + (most,) + made[8:] for most in range(len(made[6]) + 1)]
            for steps in (0, 1, 3, 400):
                try:
                    expected = greatest_by_definition(books, steps)
                except TooMany:
                    self.raises(TooMany, LIMIT, greatest_most, made, steps)
                    continue
                self.answers(expected, greatest_most, made, steps)

    def test_limits(self):
        # 400 worlds without a fault, and more with one.
        made = MOST_BOOKS[1]
        made = made[:6] + ((("drift", EAST, ()),),) + made[7:]
        model = model_of(made[:7] + (0,) + made[8:])
        steps = steps_of(model[3], task_goals(model), model[4])
        self.assertGreater(steps, 0)
        self.answers(None, greatest_most, made, steps - 1)
        self.raises(TooMany, LIMIT, greatest_most, made, steps)
        self.raises(TooMany, LIMIT, greatest_most, made, 400)
        self.raises(TooMany, LIMIT, greatest_most, TOO_LARGE_BOOKS[0], 0)


class TestBooksAreKept(AnswerCase):

    def test_all_other_parts_stay(self):
        # The pushes, the battery and all other parts are those of the book that is handed in.
        made = book(plan=("..a",), sensors=(east(1),), task=TO_A, pushes=(((0,), (0, 0)), PLAIN[1]), battery=BATTERY)
        self.answers(4, greatest_error, made, 0, 2)
        self.answers(None, greatest_error, made, 0, 1)
        self.answers(0, greatest_most, made, 2)


if __name__ == "__main__":
    unittest.main()
