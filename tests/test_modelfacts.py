import unittest

from doubtborne.clauses import kept_by
from doubtborne.modelfacts import cells_known, costs_of, map_known
from doubtborne.modelgoals import map_goals
from doubtborne.models import model_of
from doubtborne.tables import ended
from tests.answers import AnswerCase, literal_holds, literal_tuples, shorter_ones
from tests.sample_books import DONE, VARIED, book, doors_in

MODELS = [(made, model_of(made)) for made in VARIED]


def model(*worlds):
    """What a model with these settings and cells looks like to those who ask for facts."""
    return ("model", tuple((setting, cell, (), (), DONE) for setting, cell in worlds), ((),),
            ((((0, 0),),) * 5,) * len(worlds), (0,), ())


def clauses_by_definition(doors, cases):
    """All prime clauses, one by one."""
    def holds(clause):
        return all(any(literal_holds(literal, case) for literal in clause) for case in cases)
    found = [clause for clause in literal_tuples(doors) if holds(clause)]
    return tuple(sorted(clause for clause in found if not any(holds(some) for some in shorter_ones(clause))))


def some_beliefs(worlds):
    """Beliefs of one world, of two, of some, and of all."""
    numbers = range(worlds)
    return ([(number,) for number in numbers[::9]] + [(number, worlds - 1) for number in numbers[:-1:9]]
            + [tuple(numbers[first::step]) for first in range(min(2, worlds)) for step in (2, 3, 5)] + [tuple(numbers)])


class TestMapKnown(AnswerCase):

    def test_no_doors(self):
        self.answers((), map_known, model(((), 0), ((), 1)), (0, 1))

    def test_one_world(self):
        self.answers(((-1,), (2,)), map_known, model(((0, 1), 0), ((1, 1), 0)), (0,))

    def test_several(self):
        told = model(((0, 0), 0), ((0, 1), 0), ((1, 0), 1), ((1, 1), 0))
        self.answers(((-1, -2),), map_known, told, (0, 1, 2))
        self.answers(((-1, -2), (1, 2)), map_known, told, (1, 2))
        self.answers(((-1,),), map_known, told, (0, 1))
        self.answers((), map_known, told, (0, 1, 2, 3))

    def test_worlds_of_one_setting(self):
        self.answers(((1,),), map_known, model(((1,), 0), ((1,), 1), ((0,), 0)), (0, 1))

    def test_by_the_definition(self):
        for made, told in MODELS:
            doors = doors_in(made[1])
            for belief in some_beliefs(len(told[1])):
                cases = sorted({told[1][number][0] for number in belief})
                self.answers(clauses_by_definition(doors, cases), map_known, told, belief)

    def test_what_is_known_agrees_with_the_goals_of_the_map(self):
        for made, told in MODELS:
            for belief in some_beliefs(len(told[1])):
                left = kept_by(doors_in(made[1]), map_known(told, belief))
                self.assertEqual(set(left), {told[1][number][0] for number in belief})
                self.assertEqual(len(left) == 1, ended(map_goals(told), belief))


class TestCellsKnown(AnswerCase):

    def test_ordinary(self):
        told = model(((0,), 5), ((0,), 7), ((1,), 3), ((1,), 5))
        self.answers((5,), cells_known, told, (0,))
        self.answers((5,), cells_known, told, (0, 3))
        self.answers((3, 5, 7), cells_known, told, (0, 1, 2, 3))
        self.answers((3, 7), cells_known, told, (1, 2))

    def test_all(self):
        for _, told in MODELS:
            for belief in some_beliefs(len(told[1])):
                expected = tuple(sorted({told[1][number][1] for number in belief}))
                self.answers(expected, cells_known, told, belief)


class TestCostsOf(AnswerCase):

    def costs(self, expected, plan, battery, **parts):
        made = book(plan=plan, battery=battery, **parts)
        self.answers(expected, costs_of, made, model_of(made))

    def test_plain_slick_and_charging_floor(self):
        self.costs(((1, 2, 2, 2, 2), (1, 3, 3, 3, 3), (-3, 2, 2, 2, 2)), (".,+",), ("battery", 9, 1, 2, 3, 4))

    def test_all_other_floor(self):
        for sign in "aeh1A":
            rules = (("least", 1, (1 if sign == "1" else -1,)),) if sign in "1A" else ()
            self.costs(((4, 1, 1, 1, 1),), (sign,), ("battery", 0, 4, 1, 2, 3), rules=rules)

    def test_a_gain_that_is_less_than_waiting_takes(self):
        self.costs(((1, 0, 0, 0, 0),), ("+",), ("battery", 9, 3, 0, 4, 2))
        self.costs(((0, 4, 4, 4, 4),), ("+",), ("battery", 9, 3, 4, 0, 3))

    def test_the_greatest_ones(self):
        self.costs(((-4, 4, 4, 4, 4),), ("+",), ("battery", 12, 0, 4, 0, 4))
        self.costs(((4, 4, 4, 4, 4), (0, 4, 4, 4, 4)), (",+",), ("battery", 12, 4, 4, 4, 4))

    def test_several_worlds_of_one_cell(self):
        made = book(plan=(".+",), task=("then", ("at", 1), DONE), faults=(("drift", 1, ()),), most=1,
                    battery=("battery", 3, 1, 2, 0, 2))
        told = model_of(made)
        expected = tuple((1, 2, 2, 2, 2) if one[1] == 0 else (-1, 2, 2, 2, 2) for one in told[1])
        self.assertEqual(len(expected), 4)
        self.answers(expected, costs_of, made, told)

    def test_one_tuple_for_each_world(self):
        for made, told in MODELS:
            found = costs_of(made, told)
            self.assertEqual([len(costs) for costs in found], [5] * len(told[1]))
            signs = "".join(made[1])
            _, _, wait, move, slick, gain = made[8]
            for costs, one in zip(found, told[1]):
                sign = signs[one[1]]
                self.assertEqual(costs[0], wait - gain if sign == "+" else wait)
                self.assertEqual(costs[1:], ((slick if sign == "," else move),) * 4)


if __name__ == "__main__":
    unittest.main()
