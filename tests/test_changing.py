import unittest
from random import Random

from doubtborne.changing import changed_steps, exposed, updated
from doubtborne.errors import TooMany
from doubtborne.solving import solved
from doubtborne.webs import steps_of
from tests.answers import SMALL_TABLE, TOUCH, AnswerCase
from tests.sample_tables import (
    TOO_LARGE_WEBS, VARIED, beliefs_of, cycles_table, ended_by_definition, line_table, made_table, moves_of,
    steps_by_definition, web_by_definition)

LIMIT = {"limit": 400}
GOAL = ((1,),)


def exposed_by_definition(table, other, goals, start):
    """All exposed beliefs: point 60, word for word."""
    changed = {world for world in range(len(table)) if table[world] != other[world]}
    found = []
    for belief in sorted(web_by_definition(table, goals, start)):
        come_to = web_by_definition(table, goals, belief)
        if any(not ended_by_definition(goals, one) and set(one) & changed for one in come_to):
            found.append(belief)
    return tuple(found)


def least_number(others, steps):
    """The greatest steps of these beliefs, None if one of them has none."""
    told = [steps.get(other) for other in others.values()]
    return None if None in told else max(told)


def updated_by_definition(triples, table, other, goals, start):
    """All triples of the second web: point 60, word for word."""
    first = web_by_definition(table, goals, start)
    apart = exposed_by_definition(table, other, goals, start)
    second = web_by_definition(other, goals, start)
    taken = {triple[0]: triple for triple in triples if triple[0] in first & second and triple[0] not in apart}
    steps = {belief: triple[1] for belief, triple in taken.items()}
    for belief in second - set(taken):
        steps[belief] = 0 if ended_by_definition(goals, belief) else None
    free = [belief for belief in second if belief not in taken and steps[belief] is None]
    while True:
        # Steps get smaller from one time to the next one, until they stay.
        before = dict(steps)
        for belief in free:
            told = [least_number(others, steps) for others in moves_of(other, belief).values()]
            told = [number for number in told if number is not None]
            steps[belief] = 1 + min(told) if told else None
        if steps == before:
            break
    found = []
    for belief in sorted(second):
        command = None
        if belief in taken:
            command = taken[belief][2]
        elif steps[belief]:
            command = min(
                number for number, others in moves_of(other, belief).items()
                if all(steps[one] is not None and steps[one] < steps[belief] for one in others.values()))
        found.append((belief, steps[belief], command))
    return tuple(found)


def with_row(table, world, row):
    """The table with another row of a world."""
    return table[:world] + (row,) + table[world + 1:]


def changed_tables(table, seed):
    """Tables of one shape with this one, of which some worlds differ."""
    dice = Random(seed)
    other = made_table(seed + 1000, len(table), len(table[0]), 3)
    worlds = dice.sample(range(len(table)), dice.randint(1, len(table)))
    some = tuple(other[world] if world in worlds else row for world, row in enumerate(table))
    return (table, with_row(table, worlds[0], other[worlds[0]]), some, other)


LINE = line_table(6)
END = ((5,),)
# By a short cut the world 2 of the line comes to the goal at once.
SHORT = with_row(LINE, 2, (((2, 5),),))


class TestExposed(AnswerCase):

    def test_equal_tables(self):
        for table, goals in VARIED[::4]:
            for start in beliefs_of(table)[::3]:
                self.answers((), exposed, table, table, goals, start)

    def test_one_world_changed(self):
        self.answers(((0,), (1,), (2,)), exposed, LINE, SHORT, END, (0,))
        self.answers(((2,),), exposed, LINE, SHORT, END, (2,))
        self.answers((), exposed, LINE, SHORT, END, (3,))
        self.answers(((0, 1), (1, 2), (2, 3)), exposed, uncertain(LINE), uncertain(SHORT), END, (0, 1))

    def test_several_worlds_changed(self):
        other = with_row(SHORT, 4, (((4, 4),),))
        self.answers(((0,), (1,), (2,), (3,), (4,)), exposed, LINE, other, END, (0,))
        self.answers(((3,), (4,)), exposed, LINE, other, END, (3,))
        self.answers((), exposed, LINE, other, END, (5,))

    def test_a_changed_world_only_in_ended_beliefs(self):
        other = with_row(LINE, 5, (((5, 0),),))
        self.answers((), exposed, LINE, other, END, (0,))
        self.answers((), exposed, LINE, SHORT, ((2,),), (0,))
        self.answers((), exposed, LINE, SHORT, ((1, 2),), (0,))
        # One world of a belief that is not ended is changed, and each of them by itself would be ended.
        self.answers(((0, 1),), exposed, SMALL_TABLE, with_row(SMALL_TABLE, 1, SMALL_TABLE[0]), ((0,), (1,)), (0, 1))

    def test_a_changed_world_only_behind_a_command_that_may_touch(self):
        table = ((((0, 0),), (TOUCH, (0, 1))), (((0, 1),), ((0, 1),)))
        other = with_row(table, 1, (((0, 0),), ((0, 1),)))
        self.answers((), exposed, table, other, (), (0,))
        self.answers(((1,),), exposed, table, other, (), (1,))
        table = ((((0, 0),), ((0, 1),)), (((0, 1),), ((0, 1),)))
        self.answers(((0,), (1,)), exposed, table, with_row(table, 1, other[1]), (), (0,))

    def test_one_goes_on_by_the_first_table(self):
        # By the second table one comes to the changed world, by the first one not.
        first = ((((0, 1),),), (((0, 1),),), (((0, 2),),), (((0, 3),),))
        second = ((((0, 1),),), (((0, 1),),), (((0, 3),),), (((0, 3),),))
        self.answers((), exposed, first, second, (), (0,))
        self.answers((), exposed, first, second, (), (3,))
        self.answers(((2,),), exposed, first, second, (), (2,))
        self.answers(((2,),), exposed, second, first, (), (2,))

    def test_by_the_definition(self):
        many = set()
        for seed, (table, goals) in enumerate(VARIED):
            for other in changed_tables(table, seed):
                for start in beliefs_of(table)[::2]:
                    found = exposed_by_definition(table, other, goals, start)
                    self.answers(found, exposed, table, other, goals, start)
                    self.ascends(found)
                    many.add(len(found))
        self.assertGreaterEqual(many, {0, 1, 2, 3})

    def test_what_is_not_exposed_stays_as_it_is(self):
        for seed, (table, goals) in enumerate(VARIED):
            for other in changed_tables(table, seed):
                for start in beliefs_of(table)[::3]:
                    apart = exposed(table, other, goals, start)
                    steps = steps_by_definition(other, goals)
                    for belief, number, command in solved(table, goals, start):
                        if belief not in apart:
                            self.assertEqual(steps.get(belief), number)
                            self.assertIn((belief, number, command), solved(other, goals, belief))


class TestChangedSteps(AnswerCase):

    def test_equal_tables(self):
        self.answers((), changed_steps, LINE, LINE, END, (0,))

    def test_ordinary(self):
        self.answers((((0,), 5, 3), ((1,), 4, 2), ((2,), 3, 1)), changed_steps, LINE, SHORT, END, (0,))
        self.answers((((0,), 3, 5), ((1,), 2, 4), ((2,), 1, 3)), changed_steps, SHORT, LINE, END, (0,))
        shut = with_row(LINE, 2, (((2, 2),),))
        self.answers((((0,), 5, None), ((1,), 4, None), ((2,), 3, None)), changed_steps, LINE, shut, END, (0,))
        self.answers((((0,), None, 5), ((1,), None, 4), ((2,), None, 3)), changed_steps, shut, LINE, END, (0,))

    def test_exposed_beliefs_whose_steps_stay(self):
        other = with_row(LINE, 2, (((7, 3),),))
        self.answers(((0,), (1,), (2,)), exposed, LINE, other, END, (0,))
        self.answers((), changed_steps, LINE, other, END, (0,))
        self.answers((), changed_steps, LINE, SHORT, (), (0,))

    def test_by_the_definition(self):
        found = set()
        for seed, (table, goals) in enumerate(VARIED):
            for other in changed_tables(table, seed):
                first, second = steps_by_definition(table, goals), steps_by_definition(other, goals)
                for start in beliefs_of(table)[::2]:
                    told = tuple(
                        (belief, first.get(belief), second.get(belief))
                        for belief in exposed_by_definition(table, other, goals, start)
                        if first.get(belief) != second.get(belief))
                    self.answers(told, changed_steps, table, other, goals, start)
                    found |= {(one is None, two is None) for _, one, two in told}
        self.assertEqual(len(found), 3)


class TestUpdated(AnswerCase):

    def test_equal_tables(self):
        for table, goals in VARIED[::4]:
            for start in beliefs_of(table)[::3]:
                triples = solved(table, goals, start)
                self.answers(triples, updated, triples, table, table, goals, start)

    def test_the_solved_first_table_gives_the_solved_second_one(self):
        for seed, (table, goals) in enumerate(VARIED):
            for other in changed_tables(table, seed):
                for start in beliefs_of(table)[::2]:
                    triples = solved(table, goals, start)
                    self.answers(solved(other, goals, start), updated, triples, table, other, goals, start)

    def test_what_the_triples_have_is_taken_over(self):
        triples = solved(LINE, END, (0,))
        self.answers(solved(SHORT, END, (0,)), updated, triples, LINE, SHORT, END, (0,))
        # The world 5 is not exposed, so from what it is said to have the others are worked out.
        told = triples[:5] + (((5,), 7, 0),)
        expected = (((0,), 10, 0), ((1,), 9, 0), ((2,), 8, 0), ((5,), 7, 0))
        self.answers(expected, updated, told, LINE, SHORT, END, (0,))
        told = triples[:5] + (((5,), None, 0),)
        expected = (((0,), None, None), ((1,), None, None), ((2,), None, None), ((5,), None, 0))
        self.answers(expected, updated, told, LINE, SHORT, END, (0,))
        # And again with what is right.
        self.answers(solved(SHORT, END, (0,)), updated, triples, LINE, SHORT, END, (0,))

    def test_the_triples_of_exposed_beliefs_do_not_count(self):
        triples = solved(LINE, END, (0,))
        told = tuple((belief, 60, 0) for belief, _, _ in triples[:5]) + triples[5:]
        self.answers(solved(SHORT, END, (0,)), updated, told, LINE, SHORT, END, (0,))
        self.answers(tuple((one[0], 60, 0) for one in told[:5]) + told[5:], updated, told, LINE, LINE, END, (0,))

    def test_steps_with_gaps(self):
        # From 0, which is new, one comes to one of two beliefs that are said to have many steps.
        table = ((((0, 0),), ((1, 0),)), (((0, 1),), ((0, 1),)), (((0, 2),), ((0, 2),)))
        other = ((((0, 0), (1, 1)), ((0, 1), (1, 2))), table[1], table[2])
        first = ((((0, 1), (1, 2)), ((0, 0),)), table[1], table[2])
        triples = (((0,), None, None), ((1,), 60, 1), ((2,), 4, 1))
        self.answers((((0,), 61, 1), ((1,), 60, 1), ((2,), 4, 1)), updated, triples, first, other, (), (0,))
        triples = (((0,), None, None), ((1,), None, 1), ((2,), 4, 1))
        self.answers((((0,), None, None), ((1,), None, 1), ((2,), 4, 1)), updated, triples, first, other, (), (0,))

    def test_beliefs_that_are_new(self):
        # By the second table one comes to worlds that the first web does not have.
        other = with_row(LINE, 0, (((0, 3), (1, 4)),))
        begin = with_row(LINE, 0, (((0, 5),),))
        triples = solved(begin, END, (0,))
        self.assertEqual(len(triples), 2)
        self.answers(solved(other, END, (0,)), updated, triples, begin, other, END, (0,))

    def test_triples_of_beliefs_that_are_not_in_the_first_web_do_not_count(self):
        other = with_row(LINE, 0, (((0, 3), (1, 4)),))
        begin = with_row(LINE, 0, (((0, 5),),))
        triples = solved(begin, END, (0,)) + (((3,), 50, None), ((4,), None, 0))
        self.answers(solved(other, END, (0,)), updated, triples, begin, other, END, (0,))

    def test_other_triples_by_the_definition(self):
        for seed, (table, goals) in enumerate(VARIED):
            dice = Random(seed)
            for other in changed_tables(table, seed):
                for start in beliefs_of(table)[::2]:
                    triples = tuple(
                        (belief, dice.choice((0, 1, 2, 3, 5, 9, 60, None)), dice.choice((None, 0, len(table[0]) - 1)))
                        for belief, _, _ in solved(table, goals, start))
                    found = updated_by_definition(triples, table, other, goals, start)
                    self.answers(found, updated, triples, table, other, goals, start)
                    self.ascends([triple[0] for triple in found])


def uncertain(table):
    """The table with one reading for all worlds."""
    return tuple(tuple(tuple((0, world) for _, world in pairs) for pairs in row) for row in table)


# Worlds of two cycles, and two worlds more: the begin, from which one comes to both cycles or to the goal, the last.
CYCLES = cycles_table(16, 25, 1)
BEGIN, LAST = 42, 43
INTO, PAST = (((0, 15), (0, 41)),), (((0, LAST),),)
STAYS = (((0, LAST),),)
LARGE = CYCLES + (INTO, STAYS)
# By this one both cycles are left at once.
LEFT_AT_ONCE = tuple(PAST if world in (15, 41) else row for world, row in enumerate(LARGE))
# By this one they are not entered from the begin.
NOT_ENTERED = CYCLES + (PAST, STAYS)


class TestLimits(AnswerCase):

    GOALS = ((LAST,),)

    def test_the_web_by_the_first_table(self):
        for table, start in TOO_LARGE_WEBS:
            for function in (exposed, changed_steps):
                self.raises(TooMany, LIMIT, function, table, table, (), start)
            self.raises(TooMany, LIMIT, updated, (), table, table, (), start)
        for function in (exposed, changed_steps):
            self.raises(TooMany, LIMIT, function, LARGE, NOT_ENTERED, self.GOALS, (BEGIN,))
            self.raises(TooMany, LIMIT, function, LARGE, LEFT_AT_ONCE, self.GOALS, (BEGIN,))
        self.raises(TooMany, LIMIT, updated, (), LARGE, NOT_ENTERED, self.GOALS, (BEGIN,))
        self.raises(TooMany, LIMIT, updated, (), LARGE, LEFT_AT_ONCE, self.GOALS, (BEGIN,))

    def test_the_web_of_the_start_by_the_second_table(self):
        triples = solved(LEFT_AT_ONCE, self.GOALS, (BEGIN,))
        self.answers(((15, 41), (BEGIN,)), exposed, LEFT_AT_ONCE, LARGE, self.GOALS, (BEGIN,))
        self.raises(TooMany, LIMIT, changed_steps, LEFT_AT_ONCE, LARGE, self.GOALS, (BEGIN,))
        self.raises(TooMany, LIMIT, updated, triples, LEFT_AT_ONCE, LARGE, self.GOALS, (BEGIN,))

    def test_the_web_of_another_exposed_belief_by_the_second_table(self):
        triples = solved(LEFT_AT_ONCE, self.GOALS, (BEGIN,))
        self.answers(((15, 41), (BEGIN,)), exposed, LEFT_AT_ONCE, NOT_ENTERED, self.GOALS, (BEGIN,))
        self.answers(1, steps_of, NOT_ENTERED, self.GOALS, (BEGIN,))
        self.raises(TooMany, LIMIT, changed_steps, LEFT_AT_ONCE, NOT_ENTERED, self.GOALS, (BEGIN,))
        self.answers(
            (((BEGIN,), 1, 0), ((LAST,), 0, None)), updated, triples, LEFT_AT_ONCE, NOT_ENTERED, self.GOALS, (BEGIN,))

    def test_webs_that_are_not_asked(self):
        # What is not exposed is not looked at by the second table, and there is nothing to look at.
        self.answers((), changed_steps, NOT_ENTERED, NOT_ENTERED[:15] + LEFT_AT_ONCE[15:16] + NOT_ENTERED[16:],
                     self.GOALS, (BEGIN,))

    def test_several_webs_that_together_have_more_than_400(self):
        # By the second table the worlds 1 and 2 lead to two cycles each, 15 by 16 and 15 by 17 beliefs.
        cycles = ()
        begins = []
        for length in (15, 16, 15, 17):
            begins.append(3 + len(cycles))
            cycles += tuple((((0, begins[-1] + (at + 1) % length),),) for at in range(length))
        first = ((((0, 1), (1, 2)),), (((0, 1),),), (((0, 2),),)) + cycles
        second = (
            (((0, 0),),), (((0, begins[0]), (0, begins[1])),), (((0, begins[2]), (0, begins[3])),)) + cycles
        self.assertEqual(len(web_by_definition(second, (), (1,))), 241)
        self.assertEqual(len(web_by_definition(second, (), (2,))), 256)
        self.answers(((0,), (1,), (2,)), exposed, first, second, (), (0,))
        self.answers((), changed_steps, first, second, (), (0,))
        self.answers((((0,), None, None),), updated, solved(first, (), (0,)), first, second, (), (0,))

    def test_exactly_400(self):
        table = line_table(400)
        other = with_row(table, 0, (((7, 1),),))
        triples = solved(table, ((399,),), (0,))
        self.answers(((0,),), exposed, table, other, ((399,),), (0,))
        self.answers((), changed_steps, table, other, ((399,),), (0,))
        self.answers(triples, updated, triples, table, other, ((399,),), (0,))


if __name__ == "__main__":
    unittest.main()
