import unittest
from random import Random

from doubtborne.charging import charged, charged_goals, lowest, with_charge, without_charge
from doubtborne.errors import TooLarge
from doubtborne.modelfacts import costs_of
from doubtborne.models import model_of
from doubtborne.tables import is_belief, is_table
from doubtborne.webs import steps_of
from tests.answers import SMALL_TABLE, TOUCH, AnswerCase
from tests.sample_books import VARIED as BOOKS
from tests.sample_tables import VARIED, beliefs_of, line_table, steps_by_definition

STAYS = ((((3, 0),),),)


def made_costs(seed, table, least=-3, most=3):
    """Costs of the table from the least to the most."""
    dice = Random(seed)
    return tuple(tuple(dice.randint(least, most) for _ in row) for row in table)


def charged_by_definition(table, costs, room):
    """The charged table: point 54, word for word."""
    rows = []
    for world, row in enumerate(table):
        for charge in range(room + 1):
            told = []
            for outcomes, cost in zip(row, costs[world]):
                if cost > charge:
                    told.append((TOUCH,))
                    continue
                left = min(room, charge - cost)
                pairs = {(reading, behind * (room + 1) + left) for reading, behind in outcomes if reading != -1}
                told.append(tuple(sorted(pairs | ({TOUCH} if TOUCH in outcomes else set()))))
            rows.append(tuple(told))
    return tuple(rows)


def lowest_by_definition(belief, room):
    """Of the worlds with the same w only the one with the least charge: point 55."""
    return tuple(
        number for number in belief
        if not any(other < number and other // (room + 1) == number // (room + 1) for other in belief))


class TestCharged(AnswerCase):

    def test_one_world(self):
        self.answers((((TOUCH,),), (((3, 0),),), (((3, 1),),)), charged, STAYS, ((1,),), 2)
        self.answers((((TOUCH,),), ((TOUCH,),), (((3, 0),),)), charged, STAYS, ((2,),), 2)
        self.answers(((((3, 0),),), (((3, 1),),), (((3, 2),),)), charged, STAYS, ((0,),), 2)

    def test_negative_costs_fill_up_to_the_room(self):
        self.answers(((((3, 1),),), (((3, 2),),), (((3, 2),),)), charged, STAYS, ((-1,),), 2)
        self.answers(((((3, 2),),), (((3, 2),),), (((3, 2),),)), charged, STAYS, ((-9,),), 2)

    def test_costs_greater_than_the_room(self):
        self.answers((((TOUCH,),),) * 3, charged, STAYS, ((3,),), 2)
        self.answers((((TOUCH,),),) * 3, charged, STAYS, ((9,),), 2)

    def test_room_0(self):
        self.answers(SMALL_TABLE, charged, SMALL_TABLE, ((0, 0), (0, 0)), 0)
        self.answers(SMALL_TABLE, charged, SMALL_TABLE, ((-1, -9), (0, -2)), 0)
        self.answers(((SMALL_TABLE[0][0], (TOUCH,)), ((TOUCH,), SMALL_TABLE[1][1])),
                     charged, SMALL_TABLE, ((0, 1), (4, 0)), 0)

    def test_room_12(self):
        found = charged(STAYS, ((5,),), 12)
        self.assertEqual(found[:5], (((TOUCH,),),) * 5)
        self.assertEqual(found[5:], tuple((((3, charge),),) for charge in range(8)))
        self.assertEqual(len(charged(SMALL_TABLE, ((0, 0), (0, 0)), 12)), 26)

    def test_the_touch_pair(self):
        table = (((TOUCH,), (TOUCH, (0, 0), (2, 0)), ((1, 0),)),)
        self.answers(
            (((TOUCH,), (TOUCH,), (TOUCH,)), ((TOUCH,), (TOUCH, (0, 0), (2, 0)), (TOUCH,)),
             ((TOUCH,), (TOUCH, (0, 1), (2, 1)), ((1, 0),))), charged, table, ((0, 1, 2),), 2)

    def test_by_the_definition(self):
        for seed, (table, _) in enumerate(VARIED):
            for room in (0, 1, 4):
                costs = made_costs(seed, table)
                found = charged_by_definition(table, costs, room)
                self.answers(found, charged, table, costs, room)
                self.says(True, is_table, found)

    def test_books(self):
        for made in BOOKS[:3]:
            model = model_of(made)
            costs = costs_of(made, model)
            self.answers(charged_by_definition(model[3], costs, 5), charged, model[3], costs, 5)

    def test_exactly_400_worlds_and_more(self):
        for worlds, room in ((400, 0), (200, 1), (100, 3), (40, 9)):
            table = line_table(worlds)
            costs = ((1,),) * worlds
            self.assertEqual(len(charged(table, costs, room)), 400)
            self.raises(TooLarge, {"part": "worlds"}, charged, table, costs, room + 1)
            more = line_table(worlds) if worlds == 400 else line_table(worlds + 1)
            if worlds < 400:
                self.raises(TooLarge, {"part": "worlds"}, charged, more, ((1,),) * len(more), room)
        self.assertEqual(len(charged(line_table(30), ((0,),) * 30, 12)), 390)
        self.raises(TooLarge, {"part": "worlds"}, charged, line_table(31), ((0,),) * 31, 12)


class TestChargedGoals(AnswerCase):

    def test_ordinary(self):
        self.answers(((0, 1, 2, 6, 7, 8), (3, 4, 5)), charged_goals, ((0, 2), (1,)), 2)
        self.answers(((3, 4, 5), (0, 1, 2, 6, 7, 8)), charged_goals, ((1,), (0, 2)), 2)

    def test_no_goals_and_room_0(self):
        self.answers((), charged_goals, (), 7)
        self.answers(((0, 2), (1,)), charged_goals, ((0, 2), (1,)), 0)
        self.answers((tuple(range(13, 39)),), charged_goals, ((1, 2),), 12)


class TestWithCharge(AnswerCase):

    def test_ordinary(self):
        for charge in range(4):
            self.answers((charge, 8 + charge, 20 + charge), with_charge, (0, 2, 5), charge, 3)

    def test_room_0_and_12(self):
        self.answers((0, 2, 5), with_charge, (0, 2, 5), 0, 0)
        self.answers((12, 38), with_charge, (0, 2), 12, 12)

    def test_the_worlds_come_back(self):
        for room in (0, 3, 12):
            for charge in range(room + 1):
                self.answers((0, 2, 5), without_charge, with_charge((0, 2, 5), charge, room), room)
        self.answers((0, 2), without_charge, (0, 2, 3, 8, 11), 3)


class TestLowest(AnswerCase):

    def test_the_document(self):
        self.answers((0, 5, 7), lowest, (0, 2, 5, 7), 2)

    def test_ordinary(self):
        self.answers((1, 6), lowest, (1, 3, 6, 7), 3)
        self.answers((3, 4, 11), lowest, (3, 4, 5, 6, 7, 11), 3)
        self.answers((0,), lowest, tuple(range(13)), 12)

    def test_room_0(self):
        self.answers((0, 2, 5, 7), lowest, (0, 2, 5, 7), 0)

    def test_by_the_definition(self):
        dice = Random(1)
        for _ in range(200):
            room = dice.randint(0, 12)
            belief = tuple(sorted(dice.sample(range(40), dice.randint(1, 12))))
            found = lowest_by_definition(belief, room)
            self.answers(found, lowest, belief, room)
            self.answers(found, lowest, found, room)
            self.ascends(found)

    def test_a_belief_is_borne_exactly_if_its_lowest_one_is(self):
        for seed, (table, goals) in enumerate(VARIED[:2] + VARIED[2::4]):
            if len(table) > 3:
                continue
            room = 2
            paid = charged(table, made_costs(seed, table, -2, 2), room)
            aims = charged_goals(goals, room)
            steps = steps_by_definition(paid, aims)
            for belief in beliefs_of(paid)[::3]:
                self.says(True, is_belief, paid, lowest(belief, room))
                self.assertEqual(steps.get(belief), steps.get(lowest(belief, room)))

    def test_more_charge_is_never_worse(self):
        for seed, (table, goals) in enumerate(VARIED[:2] + VARIED[2::4]):
            room = 4
            paid = charged(table, made_costs(seed, table, -2, 2), room)
            aims = charged_goals(goals, room)
            for start in beliefs_of(table)[::2]:
                told = [steps_of(paid, aims, with_charge(start, charge, room)) for charge in range(room + 1)]
                for less, more in zip(told, told[1:]):
                    self.assertTrue(less is None or (more is not None and more <= less))


if __name__ == "__main__":
    unittest.main()
