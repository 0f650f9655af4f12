import unittest

from doubtborne.charging import charged, charged_goals, with_charge
from doubtborne.errors import TooLarge, TooMany
from doubtborne.leastcharge import least_charge
from doubtborne.webs import steps_of
from tests.answers import SMALL_TABLE, TOUCH, AnswerCase
from tests.sample_tables import (
    MOST_WEBS, TOO_LARGE_WEBS, VARIED, beliefs_of, ended_by_definition, line_table, web_by_definition, with_short_cut)
from tests.test_charging import charged_by_definition, lowest_by_definition, made_costs

LIMIT = {"limit": 400}
# Of these two tables the webs for the charge 1, or 0, are too large, but the low webs are not.
WIDE = (
    ((((1, 0), (1, 1)), ((0, 0), (1, 0))), (((1, 0),), ((0, 1),))), ((-1, -2), (-2, 1)), 11, 0)
WIDE_BY_ONE_READING = (
    ((((0, 0), (0, 1)), ((0, 0),)), (((0, 2),), ((0, 1),)), (((0, 2),), ((0, 0),))),
    ((1, -1), (-2, -2), (2, 0)), 11, 0)


def low_web(table, goals, room, start):
    """The low web of a belief of a charged table: point 55, word for word."""
    found = {lowest_by_definition(start, room)}
    waiting = list(found)
    while waiting:
        belief = waiting.pop()
        for command in range(len(table[0])) if not ended_by_definition(goals, belief) else ():
            pairs = [pair for world in belief for pair in table[world][command]]
            if TOUCH not in pairs:
                for reading in {shown for shown, _ in pairs}:
                    other = tuple(sorted({behind for shown, behind in pairs if shown == reading}))
                    other = lowest_by_definition(other, room)
                    if other not in found:
                        found.add(other)
                        waiting.append(other)
    return found


def with_payment(table, start, payment):
    """The table with one more world ahead of each world of the start, from which going on costs the payment."""
    rows = list(table)
    for world in start:
        rows.append(((((0, world),),) * len(table[0])))
    begin = tuple(range(len(table), len(rows)))
    costs = ((0,) * len(table[0]),) * len(table) + ((payment,) * len(table[0]),) * len(start)
    return tuple(rows), costs, begin


class TestLeastCharge(AnswerCase):

    def test_0(self):
        self.answers(0, least_charge, SMALL_TABLE, ((1,),), ((9, 9), (9, 9)), 3, (1,))
        self.answers(0, least_charge, line_table(5), ((4,),), ((0,),) * 5, 3, (0,))
        self.answers(0, least_charge, line_table(5), ((4,),), ((-1,), (1,), (-9,), (3,), (9,)), 3, (0,))

    def test_one_between_and_the_room(self):
        for world in range(5):
            self.answers(4 - world, least_charge, line_table(5), ((4,),), ((1,),) * 5, 7, (world,))
        self.answers(4, least_charge, line_table(5), ((4,),), ((1,),) * 5, 4, (0, 2, 3))
        self.answers(12, least_charge, line_table(13), ((12,),), ((1,),) * 13, 12, (0,))

    def test_none(self):
        self.answers(None, least_charge, line_table(5), ((4,),), ((1,),) * 5, 3, (0,))
        self.answers(None, least_charge, line_table(5), (), ((0,),) * 5, 3, (0,))
        self.answers(None, least_charge, SMALL_TABLE, ((1,),), ((0, 0), (0, 0)), 12, (0, 1))
        self.answers(None, least_charge, line_table(2), ((1,),), ((1,), (0,)), 0, (0,))

    def test_room_0(self):
        self.answers(0, least_charge, line_table(2), ((1,),), ((0,), (0,)), 0, (0,))
        self.answers(0, least_charge, line_table(2), ((1,),), ((-3,), (0,)), 0, (0,))

    def test_waiting_gives_charge(self):
        # By the command 1 the world 0 waits, which gives one; going on costs three.
        table = ((((0, 1),), ((0, 0),)), (((0, 1),), ((0, 1),)))
        self.answers(0, least_charge, table, ((1,),), ((3, -1), (0, 0)), 3, (0,))
        self.answers(None, least_charge, table, ((1,),), ((3, -1), (0, 0)), 2, (0,))
        self.answers(3, least_charge, table, ((1,),), ((3, 0), (0, 0)), 5, (0,))
        self.answers(3, least_charge, table, ((1,),), ((3, 1), (0, 0)), 12, (0,))

    def test_by_the_definition(self):
        found = set()
        for seed, (table, goals) in enumerate(VARIED):
            for room in (0, 2, 3):
                costs = made_costs(seed, table, -1, 2)
                paid, aims = charged(table, costs, room), charged_goals(goals, room)
                for start in beliefs_of(table)[::2]:
                    told = least_charge(table, goals, costs, room, start)
                    self.answers(told, least_charge, table, goals, costs, room, start)
                    found.add(told)
                    for charge in range(room + 1):
                        steps = steps_of(paid, aims, with_charge(start, charge, room))
                        self.assertEqual(steps is not None, told is not None and charge >= told)
        self.assertGreaterEqual(found, {None, 0, 1, 2})


class TestLimits(AnswerCase):

    def test_too_large(self):
        self.answers(None, least_charge, line_table(200), (), ((0,),) * 200, 1, (199,))
        for table, room in ((line_table(200), 2), (line_table(201), 1), (line_table(400), 1), (line_table(31), 12)):
            # Also where the start is ended.
            for goals in ((), ((0,),)):
                self.raises(TooLarge, {"part": "worlds"}, least_charge, table, goals, ((0,),) * len(table), room, (0,))

    def test_too_large_ahead_of_too_many(self):
        for table, start in TOO_LARGE_WEBS:
            self.raises(TooLarge, {"part": "worlds"}, least_charge, table, (), ((0,),) * len(table), 12, start)
            self.raises(TooMany, LIMIT, least_charge, table, (), ((0,),) * len(table), 8, start)

    def test_exactly_400_beliefs_and_more(self):
        table, start = MOST_WEBS[1]
        self.answers(None, least_charge, table, (), ((0,),) * len(table), 8, start)
        self.answers(None, least_charge, line_table(400), (), ((0,),) * 400, 0, (0,))
        for table, start in TOO_LARGE_WEBS:
            for room in (0, 8):
                self.raises(TooMany, LIMIT, least_charge, table, (), ((0,),) * len(table), room, start)

    def test_too_many_at_a_charge_that_is_tried(self):
        # With less than the payment the robot is stranded at once.
        for table, start in TOO_LARGE_WEBS:
            for payment in (0, 1, 3):
                rows, costs, begin = with_payment(table, start, payment)
                paid = charged_by_definition(rows, costs, 3)
                for charge in range(payment):
                    self.assertEqual(len(low_web(paid, (), 3, with_charge(begin, charge, 3))), 1)
                self.assertGreater(len(low_web(paid, (), 3, with_charge(begin, payment, 3))), 400)
                self.raises(TooMany, LIMIT, least_charge, rows, (), costs, 3, begin)
            # With a payment that never can be made nothing more is looked at.
            rows, costs, begin = with_payment(table, start, 4)
            self.answers(None, least_charge, rows, (), costs, 3, begin)

    def test_too_many_at_a_charge_that_is_not_tried(self):
        # The short cut costs nothing, so it is enough with the charge 0; with more the other command can be given.
        for table, start in TOO_LARGE_WEBS:
            rows, costs, begin = with_payment(with_short_cut(table), start, 1)
            last = len(table) - 1
            rows = rows[:len(table)] + tuple((row[0], ((0, last),)) for row in rows[len(table):])
            costs = costs[:len(table)] + tuple((row[0], 0) for row in costs[len(table):])
            paid = charged_by_definition(rows, costs, 1)
            aims = charged_goals(((last,),), 1)
            self.assertGreater(len(low_web(paid, aims, 1, with_charge(begin, 1, 1))), 400)
            self.answers(0, least_charge, rows, ((last,),), costs, 1, begin)

    def test_the_web_is_larger_but_the_low_web_is_not(self):
        for (table, costs, room, first), charge in ((WIDE, 1), (WIDE_BY_ONE_READING, 0)):
            paid = charged_by_definition(table, costs, room)
            start = with_charge((first,), charge, room)
            self.assertGreater(len(web_by_definition(paid, (), start)), 400)
            for each in range(room + 1):
                self.assertLessEqual(len(low_web(paid, (), room, with_charge((first,), each, room))), 400)
            self.raises(TooMany, LIMIT, steps_of, paid, (), start)
            self.answers(None, least_charge, table, (), costs, room, (first,))


if __name__ == "__main__":
    unittest.main()
