import unittest
from itertools import combinations

from doubtborne.books import check_book
from doubtborne.errors import (
    BadFault, BadMover, BadNumber, BadPlan, BadPush, BadRule, BadSensor, BadStart, BadTask, DoubtError, NoWorld,
    TooLarge)
from tests.answers import AnswerCase
from tests.sample_books import BATTERY, DONE, PLAIN, VARIED, book, standing

FULL = dict(
    plan=("a.1,", "+B.*"), rules=(("least", 1, (1, -2)), ("most", 0, ())),
    sensors=(("range", 0, 1, 0), ("mark", ((0, 1), (3, 2))), ("near", 1, 3)),
    pushes=(((), (0,), (0, 0, 0)), ((0,), (1,))),
    movers=(("mover", (7, 3), ((1,), (0, 1))), standing(2)), faults=(("dead", 0), ("drift", 4, (3, 3)), ("wild", 2)),
    most=2, battery=("battery", 7, 1, 2, 3, 4), task=("then", ("at", 1), ("within", 5, ("without", 2, ("at", 8)))),
    cells=(0, 1, 4), posts=((0, 1), (0,)))
MARKS = ("mark", ())


def changed(**parts):
    """The full book with some parts in place of its own."""
    return book(**{**FULL, **parts})


def battery(number, value):
    """A battery in which one number, counted from the word on, is this one."""
    return BATTERY[:number] + (value,) + BATTERY[number + 1:]


def chain(depth):
    """A task in which one node is contained in so many others."""
    task = DONE
    for _ in range(depth):
        task = ("within", 1, task)
    return task


class BookCase(AnswerCase):

    def right(self, **parts):
        self.answers(None, check_book, changed(**parts))

    def wrong(self, error, attributes, **parts):
        self.raises(error, attributes, check_book, changed(**parts))


class TestRightBooks(BookCase):

    def test_right_ones(self):
        self.answers(None, check_book, book())
        self.right()
        for made in VARIED:
            self.answers(None, check_book, made)


class TestPlan(BookCase):

    def test_the_empty_tuple(self):
        self.wrong(BadPlan, {"line": 0, "column": 0}, plan=())

    def test_first_line(self):
        self.wrong(BadPlan, {"line": 0, "column": 0}, plan=("",))
        self.wrong(BadPlan, {"line": 0, "column": 0}, plan=("", "..."))
        self.wrong(BadPlan, {"line": 0, "column": 8}, plan=("." * 9, "." * 9))
        self.wrong(BadPlan, {"line": 0, "column": 1}, plan=(". .", "..."))
        self.wrong(BadPlan, {"line": 0, "column": 2}, plan=("..x",))

    def test_later_lines(self):
        self.wrong(BadPlan, {"line": 1, "column": 2}, plan=("...", "..", "?.."))
        self.wrong(BadPlan, {"line": 1, "column": 3}, plan=("...", "....", "?.."))
        self.wrong(BadPlan, {"line": 2, "column": 0}, plan=("...", "...", ""))
        self.wrong(BadPlan, {"line": 2, "column": 1}, plan=("...", "...", ".7."))

    def test_eight_lines_and_nine(self):
        self.answers(None, check_book, book(plan=("........",) * 8))
        self.raises(BadPlan, {"line": 8, "column": 0}, check_book, book(plan=("........",) * 9))
        self.raises(BadPlan, {"line": 8, "column": 0}, check_book, book(plan=("........",) * 8 + ("",)))


class TestRules(BookCase):

    def test_eight_rules_and_nine(self):
        rule = ("least", 0, (1,))
        self.right(rules=(rule,) * 8)
        self.wrong(BadRule, {"number": 8}, rules=(rule,) * 9)
        self.wrong(BadRule, {"number": 8}, rules=(rule,) * 12)

    def test_n(self):
        for n in (0, 6):
            self.right(rules=(("most", n, (1,)),))
        self.wrong(BadRule, {"number": 0}, rules=(("most", -1, (1,)),))
        self.wrong(BadRule, {"number": 1}, rules=(("most", 1, ()), ("least", 7, (1,))))

    def test_literals_name_doors_of_the_plan(self):
        self.right(rules=(("most", 2, (1, 2, -1, -2)),))
        for literal in (0, 3, -3, 1000, -1000):
            self.wrong(BadRule, {"number": 1}, rules=(("most", 1, (1,)), ("most", 6, (2, literal))))

    def test_a_door_that_has_neither_gate_nor_lid(self):
        self.answers(None, check_book, book(plan=(".3",), rules=(("most", 6, (1, -2)),)))
        self.raises(BadRule, {"number": 0}, check_book, book(plan=(".3",), rules=(("most", 6, (4,)),)))
        self.raises(BadRule, {"number": 0}, check_book, book(plan=("..",), rules=(("most", 6, (1,)),)))
        self.answers(None, check_book, book(plan=("..",), rules=(("most", 6, ()),)))

    def test_literals_are_different(self):
        self.wrong(BadRule, {"number": 0}, rules=(("most", 6, (1, 1)),))
        self.wrong(BadRule, {"number": 0}, rules=(("most", 6, (-2, 1, -2)),))
        self.right(rules=(("most", 6, (-2, 1, 2)),))

    def test_the_first_bad_one(self):
        good, bad = ("least", 0, (1,)), ("least", 7, (1,))
        self.wrong(BadRule, {"number": 2}, rules=(good, good, bad, bad))
        self.wrong(BadRule, {"number": 7}, rules=(good,) * 7 + (bad, bad))
        self.wrong(BadRule, {"number": 8}, rules=(good,) * 8 + (bad,))


class TestSensors(BookCase):

    def bad(self, sensor):
        """The sensor is bad, as the first one and as a later one."""
        self.wrong(BadSensor, {"number": 0}, sensors=(sensor, ("bump",)), faults=())
        self.wrong(BadSensor, {"number": 2}, sensors=(("bump",), MARKS, sensor), faults=())

    def good(self, sensor):
        self.right(sensors=(sensor,), faults=())

    def test_four_sensors_and_five(self):
        self.right(sensors=(("bump",),) * 4)
        self.wrong(BadSensor, {"number": 4}, sensors=(("bump",),) * 5)
        self.wrong(BadSensor, {"number": 4}, sensors=(("bump",),) * 7)
        self.right(sensors=(), faults=())

    def test_range(self):
        for direction in (0, 3):
            self.good(("range", direction, 2, 2))
        for far in (1, 4):
            self.good(("range", 1, far, 2))
        for error in (0, 4):
            self.good(("range", 1, 2, error))
        for direction in (-1, 4):
            self.bad(("range", direction, 2, 2))
        for far in (0, 5, -2):
            self.bad(("range", 1, far, 2))
        for error in (-1, 5):
            self.bad(("range", 1, 2, error))

    def test_mark(self):
        self.good(MARKS)
        self.good(("mark", ((0, 8), (8, 0))))
        self.good(("mark", tuple((m, v) for m in range(9) for v in range(9) if m != v)))
        for pair in ((-1, 0), (0, -1), (9, 0), (0, 9), (4, 4)):
            self.bad(("mark", (pair,)))
        self.bad(("mark", ((1, 2), (0, 1))))
        self.bad(("mark", ((0, 2), (0, 1))))
        self.bad(("mark", ((0, 1), (0, 1))))

    def test_near(self):
        for bounds in ((0, 0), (0, 16), (16, 16), (3, 7)):
            self.good(("near",) + bounds)
        for bounds in ((-1, 3), (4, 3), (0, 17), (17, 17), (-2, -1)):
            self.bad(("near",) + bounds)


class TestPushes(BookCase):

    def bad(self, number, trails):
        self.wrong(BadPush, {"which": 0, "number": number}, pushes=(trails, PLAIN[1]))
        self.wrong(BadPush, {"which": 1, "number": number}, pushes=(PLAIN[0], trails))

    def test_no_trail(self):
        self.bad(0, ())

    def test_four_trails_and_five(self):
        self.right(pushes=(((), (0,), (1,), (2,)), ((0,), (1,), (2,), (3,))))
        self.bad(4, ((), (0,), (1,), (2,), (3,)))
        self.bad(4, ((), (0,), (1,), (2,), (3,), (3, 3)))

    def test_turns(self):
        self.right(pushes=(((3, 0, 3),), ((),)))
        self.bad(0, ((0, 0, 0, 0),))
        self.bad(0, ((-1,),))
        self.bad(0, ((4,),))
        self.bad(1, ((0,), (0, 1, 4)))
        self.bad(2, ((), (0,), (0, 1, 2, 3)))

    def test_order(self):
        self.bad(1, ((0,), (0,)))
        self.bad(1, ((1,), (0,), (2,)))
        self.bad(2, ((0,), (0, 0), ()))

    def test_dry_comes_ahead_of_slick(self):
        self.wrong(BadPush, {"which": 0, "number": 1}, pushes=(((0,), (0,)), ()))


class TestMovers(BookCase):

    def bad(self, mover):
        self.wrong(BadMover, {"number": 0}, movers=(mover, standing(1)))
        self.wrong(BadMover, {"number": 1}, movers=(standing(1), mover))

    def test_two_movers_and_three(self):
        self.wrong(BadMover, {"number": 2}, movers=(standing(1),) * 3)
        self.wrong(BadMover, {"number": 2}, movers=(standing(1),) * 5)
        self.right(movers=(), posts=())

    def test_posts(self):
        self.right(movers=(("mover", (7,) * 6, ((0,),) * 6),), posts=((5,),))
        self.bad(("mover", (), ()))
        self.bad(("mover", (7,) * 7, ((0,),) * 7))

    def test_cells(self):
        self.right(movers=(("mover", (0, 7), ((0,), (1,))),), posts=((1,),))
        self.bad(("mover", (0, 8), ((0,), (1,))))
        self.bad(("mover", (-1,), ((0,),)))

    def test_leads(self):
        self.bad(("mover", (0, 1), ((0,),)))
        self.bad(("mover", (0, 1), ((0,), (1,), (0,))))
        self.bad(("mover", (0, 1), ()))
        self.bad(("mover", (0, 1), ((0,), ())))
        self.bad(("mover", (0, 1), ((0,), (2,))))
        self.bad(("mover", (0, 1), ((-1,), (1,))))
        self.bad(("mover", (0, 1), ((1, 0), (1,))))
        self.bad(("mover", (0, 1), ((0, 0), (1,))))


class TestFaults(BookCase):

    def bad(self, fault):
        self.wrong(BadFault, {"number": 0}, faults=(fault, ("wild", 1)))
        self.wrong(BadFault, {"number": 2}, faults=(("wild", 0), ("dead", 0), fault))

    def test_three_faults_and_four(self):
        self.right(faults=(("dead", 0), ("wild", 0), ("drift", 1, ())))
        self.wrong(BadFault, {"number": 3}, faults=(("dead", 0), ("wild", 0), ("drift", 1, ()), ("drift", 2, ())))
        self.right(faults=())

    def test_sensors(self):
        self.right(faults=(("dead", 2), ("wild", 2)))
        for word in ("dead", "wild"):
            self.bad((word, 3))
            self.bad((word, -1))
        self.raises(BadFault, {"number": 0}, check_book, book(faults=(("dead", 0),)))

    def test_drifts(self):
        self.right(faults=(("drift", 1, (0, 0, 0)), ("drift", 4, (3,))))
        for fault in (("drift", 0, ()), ("drift", 5, ()), ("drift", -1, ()), ("drift", 1, (0, 0, 0, 0)),
                      ("drift", 1, (4,)), ("drift", 1, (0, -1))):
            self.bad(fault)

    def test_equal_ones(self):
        self.wrong(BadFault, {"number": 1}, faults=(("dead", 0), ("dead", 0)))
        self.wrong(BadFault, {"number": 2}, faults=(("drift", 1, (0,)), ("dead", 0), ("drift", 1, (0,))))
        self.right(faults=(("drift", 1, (0,)), ("drift", 1, (0, 0)), ("drift", 2, (0,))))


class TestNumbers(BookCase):

    def test_most(self):
        for most in (0, 3):
            self.right(most=most)
        for most in (-1, 4):
            self.wrong(BadNumber, {"name": "most"}, most=most)

    def test_battery(self):
        for number, (name, greatest) in enumerate(
                (("room", 12), ("wait", 4), ("move", 4), ("slick", 4), ("gain", 4)), 1):
            for value in (0, greatest):
                self.right(battery=battery(number, value))
            for value in (-1, greatest + 1, 1000):
                self.wrong(BadNumber, {"name": name}, battery=battery(number, value))

    def test_the_first_one(self):
        names = ("most", "room", "wait", "move", "slick", "gain")
        for first, second in combinations(range(6), 2):
            values = [1] * 6
            values[first] = values[second] = 99
            self.wrong(
                BadNumber, {"name": names[first]}, most=values[0], battery=("battery",) + tuple(values[1:]))


class TestTask(BookCase):

    def test_marks(self):
        for mark in (1, 8):
            self.right(task=("without", mark, ("at", mark)))
        for mark in (0, 9, -1):
            self.wrong(BadTask, {"at": 0}, task=("at", mark))
            self.wrong(BadTask, {"at": 0}, task=("without", mark, ("at", 9)))
            self.wrong(BadTask, {"at": 1}, task=("without", 1, ("at", mark)))

    def test_numbers(self):
        for number in (0, 60):
            self.right(task=("within", number, DONE))
        for number in (-1, 61):
            self.wrong(BadTask, {"at": 0}, task=("within", number, DONE))

    def test_preorder(self):
        bad, good = ("at", 0), ("at", 1)
        for name in ("then", "both", "either"):
            self.wrong(BadTask, {"at": 1}, task=(name, bad, bad))
            self.wrong(BadTask, {"at": 2}, task=(name, good, bad))
            self.wrong(BadTask, {"at": 3}, task=(name, (name, good, bad), bad))
            self.wrong(BadTask, {"at": 4}, task=(name, (name, good, good), bad))
            self.wrong(BadTask, {"at": 5}, task=(name, ("within", 1, good), (name, good, bad)))

    def test_twelve_nodes_and_thirteen(self):
        twelve = ("both", ("then", ("either", DONE, DONE), ("either", DONE, DONE)), ("then", DONE, ("within", 1, DONE)))
        self.right(task=twelve)
        thirteen = twelve[:2] + (("then", DONE, ("within", 1, ("within", 1, DONE))),)
        self.wrong(BadTask, {"at": 12}, task=thirteen)
        large = ("both", ("both", ("both", DONE, DONE), ("both", DONE, DONE)), ("both", ("both", DONE, DONE), twelve))
        self.wrong(BadTask, {"at": 12}, task=large)

    def test_contained_in_five_others_and_in_six(self):
        self.right(task=chain(5))
        self.wrong(BadTask, {"at": 6}, task=chain(6))
        self.wrong(BadTask, {"at": 6}, task=("then", chain(5), ("at", 0)))
        self.wrong(BadTask, {"at": 7}, task=("then", DONE, chain(5)))
        self.wrong(BadTask, {"at": 6}, task=chain(300))

    def test_the_first_bad_node(self):
        task = ("at", 0)
        for number in (1, 1, 61, 1, 1):
            task = ("within", number, task)
        self.wrong(BadTask, {"at": 2}, task=task)
        self.wrong(BadTask, {"at": 3}, task=("then", ("then", DONE, ("at", 9)), ("at", 9)))


class TestStart(BookCase):

    def test_cells(self):
        self.right(cells=(0, 1, 2, 3, 4, 5, 6, 7))
        for cells in ((), (0, 8), (-1, 0), (1, 0), (0, 0)):
            self.wrong(BadStart, {"number": 0}, cells=cells)

    def test_one_set_of_posts_for_each_mover(self):
        self.wrong(BadStart, {"number": 1}, posts=((0,),))
        self.wrong(BadStart, {"number": 1}, posts=())
        self.wrong(BadStart, {"number": 1}, posts=((0,), (0,), (0,)))
        self.wrong(BadStart, {"number": 1}, posts=((9,),))
        self.wrong(BadStart, {"number": 1}, movers=(), posts=((0,),))

    def test_posts(self):
        for posts in ((), (2,), (-1,), (1, 0), (0, 0)):
            self.wrong(BadStart, {"number": 2}, posts=(posts, (0,)))
        for posts in ((), (1,), (-1, 0), (0, 0)):
            self.wrong(BadStart, {"number": 3}, posts=((0, 1), posts))
        self.wrong(BadStart, {"number": 2}, posts=((5,), (5,)))


class TestReadings(BookCase):

    def test_400_readings_and_more(self):
        far, mark, bump = ("range", 0, 4, 0), MARKS, ("bump",)
        self.right(sensors=(far, far, ("range", 1, 3, 0), ("range", 1, 3, 4)), faults=())
        self.wrong(TooLarge, {"part": "readings"}, sensors=(mark, mark, far), faults=())
        large = (mark, ("range", 0, 2, 0), far, ("range", 0, 2, 0))
        self.wrong(TooLarge, {"part": "readings"}, sensors=large, faults=())
        self.wrong(TooLarge, {"part": "readings"}, sensors=(far, far, far, far), faults=())
        self.right(sensors=(mark, far, ("near", 0, 1), ("range", 0, 3, 1)), faults=())
        self.right(sensors=(mark, mark, bump, bump), faults=())

    def test_one_more_than_400(self):
        # No product of these numbers is 401; 405 is the next one.
        sensors = (MARKS, MARKS, ("range", 0, 4, 0))
        self.wrong(TooLarge, {"part": "readings"}, sensors=sensors, faults=())


class TestNoWorld(BookCase):

    def test_no_case(self):
        self.wrong(NoWorld, {}, rules=(("least", 1, (1,)), ("most", 0, (1,))))
        self.wrong(NoWorld, {}, rules=(("least", 1, ()),))

    def test_no_free_start_cell(self):
        self.wrong(NoWorld, {}, cells=(7,))
        self.wrong(NoWorld, {}, cells=(2,), rules=(("most", 0, (1,)),), movers=(), posts=())
        self.wrong(NoWorld, {}, cells=(5,), rules=(("least", 1, (2,)),), movers=(), posts=())
        self.right(cells=(2,), rules=(), movers=(), posts=())

    def test_movers_at_the_only_cell(self):
        self.wrong(NoWorld, {}, cells=(4,), movers=(standing(4),), posts=((0,),))
        self.wrong(NoWorld, {}, cells=(4,), movers=(standing(1), standing(4)), posts=((0,), (0,)))
        self.right(cells=(1, 4), movers=(standing(4),), posts=((0,),))


class TestOrder(BookCase):

    # One wrong thing for each clause, in the order in which they are told.
    WRONG = (
        (BadPlan, dict(plan=("a.1,", "+B."))),
        (BadRule, dict(rules=(("least", 9, ()),))),
        (BadSensor, dict(sensors=(MARKS, MARKS, ("range", 5, 4, 1)))),
        (BadPush, dict(pushes=((), ()))),
        (BadMover, dict(movers=(("mover", (99,), ((0,),)),))),
        (BadFault, dict(faults=(("dead", 77),))),
        (BadNumber, dict(most=7)),
        (BadTask, dict(task=("at", 0))),
        (BadStart, dict(cells=(), posts=())),
    )

    def test_the_clause_that_is_told_first(self):
        for (error, parts), (_, others) in combinations(self.WRONG, 2):
            self.assertRaises(error, check_book, changed(**{**others, **parts}))

    def test_too_large_behind_all_others(self):
        large = dict(sensors=(MARKS, MARKS, MARKS, MARKS))
        for error, parts in self.WRONG:
            if "sensors" not in parts:
                self.assertRaises(error, check_book, changed(**{**large, **parts}))

    def test_no_world_comes_last(self):
        none = dict(rules=(("least", 1, ()),))
        self.wrong(TooLarge, {"part": "readings"}, **none, sensors=(MARKS, MARKS, MARKS))
        for error, parts in self.WRONG:
            if "rules" not in parts:
                self.assertRaises(error, check_book, changed(**{**none, **parts}))

    def test_all_at_once(self):
        parts = {}
        for error, more in reversed(self.WRONG):
            parts.update(more)
            with self.assertRaises(DoubtError) as caught:
                check_book(changed(**parts))
            self.assertIs(type(caught.exception), error)


if __name__ == "__main__":
    unittest.main()
