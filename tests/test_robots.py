import unittest

from doubtborne.charging import charged, charged_goals, with_charge
from doubtborne.clauses import prime_clauses
from doubtborne.errors import Ended, Misfit, NotSafe, TooLarge, TooMany
from doubtborne.modelfacts import costs_of
from doubtborne.modelgoals import task_goals
from doubtborne.models import model_of
from doubtborne.robots import Robot
from doubtborne.safety import safe
from doubtborne.solving import solved
from doubtborne.tables import after, may_touch, readings_after
from doubtborne.verdicts import hope, verdict_of
from doubtborne.webs import steps_of, web
from tests.answers import AnswerCase, is_plain
from tests.sample_books import BATTERY, DONE, EAST, MOST_BOOKS, NORTH, TOO_LARGE_BOOKS, WAIT, WEST, book, doors_in
from tests.sample_robots import BUMP, CHARGED, FREE, GATE, LINE, ROBOTS, SIDES, TO_A, TWO_WAYS, free_book
from tests.test_filters import OwnError

LIMIT = {"limit": 400}
STOPPED, GONE = (1,), (0,)
# A gate that may be shut is in the way to the mark, and without a sensor nothing tells whether one has come through.
DARK = free_book(plan=("...1a",), cells=(2,))
# One of two start cells has glass on all sides; from the other one pushes lead to very many beliefs.
CAGED = free_book(
    plan=("....#*.", "....*.*", "....#*.", "....###"), cells=(0, 12), pushes=(((0,), (1,)),) * 2)
# Beside the start there are two lids; if they are shut, pushes lead to very many beliefs.
LIDDED = free_book(plan=(".A..#", "A...#", "....#", "...a#"), cells=(0,), pushes=(((0,), (1,)),) * 2)
LARGE_NEWS = ((CAGED, "tell_cell", 0), (LIDDED, "tell_rule", ("most", 0, (1,))))
SMALL_NEWS = ((CAGED, "tell_cell", 12), (LIDDED, "tell_rule", ("least", 1, (1,))))


def parts_by_definition(made, charge):
    """The table, the goals and the first belief that a robot keeps."""
    model = model_of(made)
    room = made[8][1]
    table = charged(model[3], costs_of(made, model), room)
    return table, charged_goals(task_goals(model), room), with_charge(model[4], charge, room)


def command_by_definition(table, goals, belief, time):
    """The command to give: point 64, word for word."""
    verdict = verdict_of(table, goals, belief, time)
    if verdict == "sure":
        return [triple[2] for triple in solved(table, goals, belief) if triple[0] == belief][0]
    if verdict == "maybe":
        return hope(table, goals, belief, time)[0][0]
    if verdict == "lost":
        return min(
            command for command in range(5) if not may_touch(table, belief, command) and all(
                safe(table, goals, after(table, belief, command, reading))
                for reading in readings_after(table, belief, command)))
    return None


class RobotCase(AnswerCase):

    def stands(self, robot, made, charge, time, belief, log):
        """All that can be asked of the robot is right for this time, belief and log."""
        table, goals, _ = parts_by_definition(made, charge)
        worlds = model_of(made)[1]
        room = made[8][1]
        possible = tuple((worlds[number // (room + 1)], number % (room + 1)) for number in belief)
        settings = sorted({world[0] for world, _ in possible})
        expected = {
            "present": belief, "time_left": time, "log": log, "state": (belief, time, log),
            "verdict": verdict_of(table, goals, belief, time), "steps_left": steps_of(table, goals, belief)}
        for _ in range(2):
            for name, value in expected.items():
                self.assertEqual(getattr(robot, name), value, name)
                self.assertTrue(is_plain(value))
            self.answers(possible, robot.possible)
            self.ascends(possible)
            self.answers(prime_clauses(doors_in(made[1]), tuple(settings)), robot.map_now)
            self.answers(tuple(sorted({world[1] for world, _ in possible})), robot.cells_now)
            self.answers(command_by_definition(table, goals, belief, time), robot.next_command)

    def stays(self, robot, made, charge, function, *arguments):
        """The function, which is just called, leaves the robot as it was."""
        before = robot.state
        function(*arguments)
        self.stands(robot, made, charge, before[1], before[0], before[2])


class TestMaking(RobotCase):

    def test_what_a_new_one_has(self):
        for made, time, charge in ROBOTS:
            _, _, start = parts_by_definition(made, charge)
            self.stands(Robot(made, time, charge), made, charge, time, start, ())

    def test_an_ended_start(self):
        for made in (free_book(task=DONE), free_book(plan=("a.",)), book(plan=("a*",), battery=BATTERY, task=TO_A)):
            for time in (0, 7):
                robot = Robot(made, time, 0)
                self.assertEqual((robot.verdict, robot.steps_left, robot.next_command()), ("ended", 0, None))
                self.stands(robot, made, 0, time, robot.present, ())

    def test_a_sure_start(self):
        for time in (3, 4, 60):
            robot = Robot(LINE, time, 0)
            self.assertEqual((robot.verdict, robot.steps_left, robot.next_command()), ("sure", 3, EAST))
            self.stands(robot, LINE, 0, time, robot.present, ())
        # The gate of the way to the west may be shut, and then the other one is open.
        robot = Robot(TWO_WAYS, 6, 0)
        self.assertEqual((robot.verdict, robot.steps_left, robot.next_command()), ("sure", 3, EAST))

    def test_a_maybe_start(self):
        for time in (2, 3, 60):
            robot = Robot(GATE, time, 0)
            self.assertEqual((robot.verdict, robot.steps_left, robot.next_command()), ("maybe", None, EAST))
            self.stands(robot, GATE, 0, time, robot.present, ())
        robot = Robot(SIDES, 2, 0)
        self.assertEqual((robot.verdict, robot.steps_left, robot.next_command()), ("maybe", 4, WAIT))

    def test_a_lost_start(self):
        for time in range(3):
            robot = Robot(LINE, time, 0)
            self.assertEqual((robot.verdict, robot.steps_left, robot.next_command()), ("lost", 3, WAIT))
            self.stands(robot, LINE, 0, time, robot.present, ())
        robot = Robot(GATE, 1, 0)
        self.assertEqual((robot.verdict, robot.steps_left, robot.next_command()), ("lost", None, WAIT))
        robot = Robot(DARK, 60, 0)
        self.assertEqual((robot.verdict, robot.steps_left, robot.next_command()), ("lost", None, WAIT))

    def test_a_lost_robot_gives_the_least_command_that_is_safe(self):
        # Waiting takes what is needed for going to the charger, in the south.
        made = book(plan=("..", "+#"), battery=("battery", 2, 1, 1, 1, 3), task=("fail",), cells=(0,))
        robot = Robot(made, 5, 1)
        self.assertEqual((robot.verdict, robot.next_command()), ("lost", 3))
        robot.tell_reading(())
        self.assertEqual((robot.verdict, robot.next_command(), robot.cells_now()), ("lost", WAIT, (2,)))

    def test_not_safe(self):
        for made, time, charge in (
                (book(plan=("...a",), task=TO_A), 60, 2), (book(plan=(".",), task=TO_A), 0, 5),
                (book(plan=(".#a",), task=TO_A), 3, 0)):
            self.raises(NotSafe, {}, Robot, made, time, charge)
        # With one more of charge the robot is sure, or else lost.
        self.assertEqual(Robot(book(plan=("...a",), task=TO_A), 60, 3).verdict, "sure")
        self.raises(NotSafe, {}, Robot, book(plan=("...a",), task=TO_A), 2, 2)

    def test_too_many_worlds(self):
        for made in TOO_LARGE_BOOKS[:3]:
            # Also where there is no room for charge, and where there is.
            for battery in (FREE, BATTERY):
                self.raises(TooMany, LIMIT, Robot, made[:8] + (battery,) + made[9:], 60, 0)

    def test_too_large(self):
        made = MOST_BOOKS[1]
        self.assertIn(Robot(made[:8] + (FREE,) + made[9:], 60, 0).verdict, ("sure", "lost"))
        for room in (1, 12):
            battery = ("battery", room, 0, 0, 0, 0)
            self.raises(TooLarge, {"part": "worlds"}, Robot, made[:8] + (battery,) + made[9:], 60, 0)
        line = book(plan=("........",) * 4, task=DONE, battery=("battery", 12, 1, 1, 1, 1))
        self.raises(TooLarge, {"part": "worlds"}, Robot, line, 60, 0)
        self.assertEqual(Robot(line[:8] + (("battery", 11, 1, 1, 1, 1),) + line[9:], 60, 0).verdict, "ended")

    def test_too_many_beliefs(self):
        for made, _, _ in LARGE_NEWS:
            _, plan, rules, _, pushes, _, _, _, _, _, (cells, _) = made
            loose = free_book(plan=plan, rules=rules + (("most", 0, (1,)),) if doors_in(plan) else (), pushes=pushes,
                              cells=cells[:1])
            table, goals, start = parts_by_definition(loose, 0)
            self.assertLess(len(table), 100)
            self.raises(TooMany, LIMIT, web, table, goals, start)
            self.raises(TooMany, LIMIT, Robot, loose, 60, 0)

    def test_too_large_ahead_of_too_many_and_not_safe(self):
        wide = free_book(plan=("........",) * 5, cells=(0,), pushes=LIDDED[4])
        self.raises(TooMany, LIMIT, Robot, wide, 60, 0)
        for charge in (0, 12):
            costly = wide[:8] + (("battery", 12, 1, 1, 1, 0),) + wide[9:]
            self.raises(TooLarge, {"part": "worlds"}, Robot, costly, 60, charge)
        for room, kind in ((9, NotSafe), (10, TooLarge)):
            line = book(plan=("........",) * 5, task=("fail",), battery=("battery", room, 1, 1, 1, 0))
            self.raises(kind, {}, Robot, line, 60, 0)

    def test_too_many_ahead_of_not_safe(self):
        # The robot may wander for a while, but at last it is stranded.
        made = free_book(plan=LIDDED[1], rules=(("most", 0, (1,)),), cells=(0,), pushes=LIDDED[4], task=("fail",))
        stranded = made[:8] + (("battery", 12, 1, 1, 1, 0),) + made[9:]
        table, goals, start = parts_by_definition(stranded, 12)
        self.raises(TooMany, LIMIT, web, table, goals, start)
        self.raises(TooMany, LIMIT, Robot, stranded, 60, 12)
        self.raises(NotSafe, {}, Robot, stranded, 60, 0)


class TestTellReading(RobotCase):

    def test_going_to_the_end(self):
        robot = Robot(LINE, 5, 0)
        table, _, belief = parts_by_definition(LINE, 0)
        log = ()
        for left, verdict in ((4, "sure"), (3, "sure"), (2, "ended")):
            belief = after(table, belief, EAST, 0)
            self.assertEqual(robot.tell_reading(()), verdict)
            log += (("reading", EAST, ()),)
            self.stands(robot, LINE, 0, left, belief, log)

    def test_what_is_read_tells(self):
        robot = Robot(GATE, 5, 0)
        self.assertEqual(robot.map_now(), ())
        self.assertEqual(robot.tell_reading(STOPPED), "lost")
        self.assertEqual((robot.map_now(), robot.cells_now(), robot.next_command()), (((-1,),), (0,), WAIT))
        robot = Robot(GATE, 5, 0)
        self.assertEqual(robot.tell_reading(GONE), "sure")
        self.assertEqual((robot.map_now(), robot.cells_now(), robot.next_command()), (((1,),), (1,), EAST))
        self.assertEqual(robot.tell_reading(GONE), "ended")
        self.stands(robot, GATE, 0, 3, robot.present, (("reading", EAST, GONE),) * 2)

    def test_all_robots(self):
        found = set()
        for made, time, charge in ROBOTS:
            robot = Robot(made, time, charge)
            table, goals, belief = parts_by_definition(made, charge)
            readings = model_of(made)[2]
            log = ()
            # The last reading of all that may come is told each time.
            for step in range(6):
                found.add(robot.verdict)
                if robot.verdict == "ended":
                    break
                command = robot.next_command()
                shown = readings_after(table, belief, command)[-1 if step % 2 else 0]
                belief = after(table, belief, command, shown)
                log += (("reading", command, readings[shown]),)
                verdict = verdict_of(table, goals, belief, max(0, time - step - 1))
                self.assertEqual(robot.tell_reading(readings[shown]), verdict)
                self.stands(robot, made, charge, max(0, time - step - 1), belief, log)
        self.assertEqual(found, {"ended", "sure", "maybe", "lost"})

    def test_a_reading_that_fits_no_world(self):
        robot = Robot(GATE, 5, 0)
        for reading in ((2,), (-1,), (1000,)):
            self.stays(robot, GATE, 0, self.raises, Misfit, {"at": 0}, robot.tell_reading, reading)
        robot.tell_reading(STOPPED)
        self.stays(robot, GATE, 0, self.raises, Misfit, {"at": 1}, robot.tell_reading, STOPPED)
        robot.tell_reading(GONE)
        self.stays(robot, GATE, 0, self.raises, Misfit, {"at": 2}, robot.tell_reading, STOPPED)

    def test_news_are_no_readings_to_be_counted(self):
        robot = Robot(GATE, 5, 0)
        robot.tell_cell(0)
        robot.tell_reading(GONE)
        robot.tell_rule(("least", 1, (1,)))
        robot.tell_cell(1)
        self.stays(robot, GATE, 0, self.raises, Misfit, {"at": 1}, robot.tell_reading, STOPPED)
        self.stays(robot, GATE, 0, self.raises, Misfit, {"at": 1}, robot.tell_cell, 0)

    def test_telling_when_ended(self):
        made = free_book(plan=("a.",), sensors=(BUMP,))
        robot = Robot(made, 5, 0)
        for reading in (GONE, STOPPED, (7,)):
            self.stays(robot, made, 0, self.raises, Ended, {}, robot.tell_reading, reading)
        robot = Robot(GATE, 5, 0)
        robot.tell_reading(GONE)
        robot.tell_reading(GONE)
        for reading in (GONE, STOPPED, (7,)):
            self.stays(robot, GATE, 0, self.raises, Ended, {}, robot.tell_reading, reading)

    def test_time_that_runs_down_to_0_and_stays(self):
        robot = Robot(LINE, 2, 0)
        for left in (1, 0, 0, 0):
            self.assertEqual(robot.tell_reading(()), "lost")
            self.assertEqual(robot.time_left, left)
        self.stands(robot, LINE, 0, 0, robot.present, (("reading", WAIT, ()),) * 4)
        robot = Robot(LINE, 0, 0)
        self.assertEqual((robot.tell_reading(()), robot.time_left), ("lost", 0))

    def test_an_end_when_no_time_is_left(self):
        # Waiting takes charge, so the robot goes against the wall in the north, and may be pushed to the mark.
        made = book(plan=(".a",), battery=("battery", 1, 1, 0, 0, 0), task=TO_A, cells=(0,), sensors=(("mark", ()),),
                    pushes=(((0,), (1,)), ((0,),)))
        robot = Robot(made, 0, 0)
        self.assertEqual((robot.verdict, robot.next_command()), ("lost", NORTH))
        self.assertEqual(robot.tell_reading((0,)), "lost")
        self.assertEqual(robot.tell_reading((1,)), "ended")
        self.assertEqual(robot.time_left, 0)


class TestCharge(RobotCase):

    def charges(self, robot):
        return tuple(charge for _, charge in robot.possible())

    def test_charge_that_runs_down_and_is_gained(self):
        # Three of charge are needed, so the robot waits on the charger first.
        robot = Robot(CHARGED, 9, 0)
        self.assertEqual((robot.verdict, robot.steps_left), ("sure", 6))
        told = [(robot.next_command(), self.charges(robot))]
        while robot.verdict != "ended":
            robot.tell_reading(())
            told.append((robot.next_command(), self.charges(robot)))
        self.assertEqual(told, [
            (WAIT, (0,)), (WAIT, (2,)), (EAST, (4,)), (EAST, (3,)), (EAST, (2,)), (EAST, (1,)), (None, (0,))])

    def test_never_more_than_the_room(self):
        robot = Robot(CHARGED[:9] + (("fail",),) + CHARGED[10:], 9, 3)
        self.assertEqual((robot.verdict, robot.next_command()), ("lost", WAIT))
        for _ in range(3):
            robot.tell_reading(())
            self.assertEqual(self.charges(robot), (4,))

    def test_a_command_that_would_strand_is_not_given(self):
        robot = Robot(CHARGED, 0, 0)
        self.assertEqual((robot.verdict, robot.next_command()), ("lost", WAIT))
        made = book(plan=("+.a",), task=TO_A, battery=("battery", 4, 2, 1, 1, 2), cells=(1,))
        robot = Robot(made, 5, 1)
        self.assertEqual((robot.verdict, robot.next_command(), robot.steps_left), ("sure", EAST, 1))
        self.raises(NotSafe, {}, Robot, made, 5, 0)
        robot = Robot(made, 0, 1)
        self.assertEqual((robot.verdict, robot.next_command()), ("lost", EAST))

    def test_several_charges_in_one_belief(self):
        # Going on slick floor takes more, and nothing tells on which floor the robot is.
        made = book(plan=("..a", ",.a"), task=TO_A, battery=("battery", 6, 0, 1, 2, 0), cells=(0, 3))
        robot = Robot(made, 3, 6)
        self.assertEqual((robot.verdict, robot.next_command(), self.charges(robot)), ("sure", EAST, (6, 6)))
        self.assertEqual(robot.tell_reading(()), "sure")
        self.assertEqual(self.charges(robot), (5, 4))
        self.stands(robot, made, 6, 2, robot.present, robot.log)
        self.assertEqual(robot.tell_reading(()), "ended")
        self.assertEqual(self.charges(robot), (4, 3))
        self.assertEqual(Robot(made, 3, 3).verdict, "sure")
        self.assertEqual(Robot(made, 3, 2).verdict, "lost")


class TestNews(RobotCase):

    def test_a_rule(self):
        _, _, start = parts_by_definition(DARK, 0)
        worlds = model_of(DARK)[1]
        for state, verdict in ((1, "sure"), (0, "lost")):
            rule = ("least", 1, (1,)) if state else ("most", 0, (1,))
            robot = Robot(DARK, 5, 0)
            belief = tuple(number for number in start if worlds[number][0] == (state,))
            self.assertEqual(robot.tell_rule(rule), verdict)
            self.stands(robot, DARK, 0, 5, belief, (("rule", rule),))
            # Told once more it changes nothing but the log.
            self.assertEqual(robot.tell_rule(rule), verdict)
            self.stands(robot, DARK, 0, 5, belief, (("rule", rule),) * 2)
        robot = Robot(DARK, 5, 0)
        self.assertEqual(robot.tell_rule(("most", 1, (1, -1))), "lost")
        self.stands(robot, DARK, 0, 5, start, (("rule", ("most", 1, (1, -1))),))

    def test_a_cell(self):
        for cell, verdict in ((1, "sure"), (2, "sure"), (4, "sure"), (5, "sure")):
            robot = Robot(SIDES, 2, 0)
            self.assertEqual(robot.tell_cell(cell), verdict)
            self.assertEqual(robot.cells_now(), (cell,))
            self.stands(robot, SIDES, 0, 2, robot.present, (("cell", cell),))
        robot = Robot(SIDES, 0, 0)
        self.assertEqual(robot.tell_cell(1), "lost")
        self.assertEqual(robot.time_left, 0)

    def test_news_between_readings(self):
        robot = Robot(TWO_WAYS, 3, 0)
        self.assertEqual(robot.tell_reading(STOPPED), "sure")
        self.assertEqual(robot.tell_rule(("least", 1, (1,))), "sure")
        self.assertEqual((robot.tell_reading(GONE), robot.tell_cell(1)), ("sure", "sure"))
        self.assertEqual(robot.tell_reading(GONE), "ended")
        self.assertEqual(robot.log, (
            ("reading", EAST, STOPPED), ("rule", ("least", 1, (1,))), ("reading", WEST, GONE), ("cell", 1),
            ("reading", WEST, GONE)))
        self.assertEqual(robot.time_left, 0)

    def test_news_when_ended(self):
        robot = Robot(free_book(plan=("a.",)), 5, 0)
        self.assertEqual(robot.tell_cell(0), "ended")
        self.assertEqual(robot.log, (("cell", 0),))
        self.stays(robot, free_book(plan=("a.",)), 0, self.raises, Misfit, {"at": 0}, robot.tell_cell, 1)

    def test_news_that_fit_no_world(self):
        robot = Robot(TWO_WAYS, 6, 0)
        for name, news in (("tell_rule", ("most", 0, (1, 2))), ("tell_rule", ("least", 6, (1,))), ("tell_cell", 1),
                           ("tell_cell", 0)):
            self.stays(robot, TWO_WAYS, 0, self.raises, Misfit, {"at": 0}, getattr(robot, name), news)
        robot.tell_reading(STOPPED)
        robot.tell_reading(GONE)
        for name, news in (("tell_rule", ("least", 1, (2,))), ("tell_rule", ("most", 0, (1,))), ("tell_cell", 2)):
            self.stays(robot, TWO_WAYS, 0, self.raises, Misfit, {"at": 2}, getattr(robot, name), news)

    def test_news_behind_which_the_web_is_too_large(self):
        for made, name, news in LARGE_NEWS:
            robot = Robot(made, 9, 0)
            before = robot.state
            self.stays(robot, made, 0, self.raises, TooMany, LIMIT, getattr(robot, name), news)
            robot.tell_reading(())
            self.stays(robot, made, 0, self.raises, TooMany, LIMIT, getattr(robot, name), news)
            robot.state = before
            self.stands(robot, made, 0, 9, before[0], ())
        for made, name, news in SMALL_NEWS:
            robot = Robot(made, 9, 0)
            self.assertEqual(getattr(robot, name)(news), "lost")
            self.stands(robot, made, 0, 9, robot.present, ((name[5:], news),))

    def test_misfit_ahead_of_too_many(self):
        robot = Robot(CAGED, 9, 0)
        self.stays(robot, CAGED, 0, self.raises, Misfit, {"at": 0}, robot.tell_cell, 1)


class TestState(RobotCase):

    def test_another_robot_goes_on(self):
        for made, time, charge in ROBOTS:
            first, second = Robot(made, time, charge), Robot(made, time, charge)
            for step in range(4):
                second.state = first.state
                self.stands(second, made, charge, first.time_left, first.present, first.log)
                self.assertEqual(second.state, first.state)
                if first.verdict == "ended":
                    break
                reading = some_reading(first, step)
                self.assertEqual(second.tell_reading(reading), first.tell_reading(reading))
                self.assertEqual(second.state, first.state)

    def test_resume(self):
        first, second = Robot(GATE, 5, 0), Robot(GATE, 2, 0)
        first.tell_reading(GONE)
        before = second.state
        self.assertIsNone(second.resume(first.state))
        self.stands(second, GATE, 0, 4, first.present, first.log)
        self.assertEqual(second.tell_reading(GONE), "ended")
        self.stays(second, GATE, 0, self.raises, Ended, {}, second.tell_reading, GONE)
        self.assertEqual(first.verdict, "sure")
        self.assertIsNone(second.resume(before))
        self.stands(second, GATE, 0, 2, before[0], ())

    def test_misfits_count_on(self):
        first, second = Robot(GATE, 5, 0), Robot(GATE, 5, 0)
        first.tell_reading(STOPPED)
        first.tell_cell(0)
        first.tell_reading(GONE)
        second.state = first.state
        self.stays(second, GATE, 0, self.raises, Misfit, {"at": 2}, second.tell_reading, STOPPED)
        self.stays(second, GATE, 0, self.raises, Misfit, {"at": 2}, second.tell_cell, 1)

    def test_a_state_behind_news(self):
        first, second = Robot(CAGED, 5, 0), Robot(CAGED, 5, 0)
        first.tell_cell(12)
        second.state = first.state
        self.stands(second, CAGED, 0, 5, first.present, (("cell", 12),))
        for made, time, charge in ((SIDES, 2, 0), (TWO_WAYS, 6, 0)):
            first, second = Robot(made, time, charge), Robot(made, time, charge)
            first.tell_cell(2)
            first.tell_reading(some_reading(first, 0))
            second.state = first.state
            self.stands(second, made, charge, time - 1, first.present, first.log)


def some_reading(robot, number):
    """A reading that may come behind the robot's command."""
    shown = readings_after(robot.table, robot.present, robot.next_command())
    return robot.model[2][shown[number % len(shown)]]


class TestTrial(RobotCase):

    def test_a_normal_end(self):
        robot = Robot(GATE, 5, 0)
        before = robot.state
        with robot.trial():
            robot.tell_reading(GONE)
            robot.tell_cell(1)
            self.stands(robot, GATE, 0, 4, robot.present, (("reading", EAST, GONE), ("cell", 1)))
        self.stands(robot, GATE, 0, 5, before[0], ())
        self.assertEqual(robot.tell_reading(STOPPED), "lost")

    def test_an_end_by_an_error(self):
        robot = Robot(GATE, 5, 0)
        robot.tell_reading(GONE)
        before = robot.state
        for error in (OwnError, KeyError, KeyboardInterrupt):
            with self.assertRaises(error):
                with robot.trial():
                    robot.tell_reading(GONE)
                    raise error()
            self.stands(robot, GATE, 0, 4, before[0], before[2])
        with self.assertRaises(Misfit) as caught:
            with robot.trial():
                robot.tell_cell(1)
                robot.tell_reading(STOPPED)
        self.assertEqual(caught.exception.at, 1)
        self.stands(robot, GATE, 0, 4, before[0], before[2])

    def test_one_inside_another_one(self):
        robot = Robot(TWO_WAYS, 6, 0)
        with robot.trial():
            robot.tell_reading(STOPPED)
            held = robot.state
            with robot.trial():
                robot.tell_reading(GONE)
                with robot.trial():
                    robot.tell_reading(GONE)
                    self.assertEqual(robot.verdict, "ended")
                self.assertEqual(robot.cells_now(), (1,))
            self.stands(robot, TWO_WAYS, 0, 5, held[0], held[2])
            self.assertEqual(robot.tried((GONE, GONE)), ("sure", "ended"))
            self.stands(robot, TWO_WAYS, 0, 5, held[0], held[2])
        self.assertEqual((robot.log, robot.time_left, robot.cells_now()), ((), 6, (2,)))

    def test_a_trial_of_news_and_of_resuming(self):
        robot, other = Robot(CAGED, 5, 0), Robot(CAGED, 5, 0)
        before = robot.state
        other.tell_cell(12)
        with robot.trial():
            robot.resume(other.state)
            self.assertEqual(robot.cells_now(), (12,))
        self.stands(robot, CAGED, 0, 5, before[0], ())
        with robot.trial():
            robot.tell_cell(12)
        self.stands(robot, CAGED, 0, 5, before[0], ())
        with robot.trial():
            self.raises(TooMany, LIMIT, robot.tell_cell, 0)
        self.stands(robot, CAGED, 0, 5, before[0], ())


class TestTried(RobotCase):

    def test_no_reading(self):
        for made, time, charge in ROBOTS:
            robot = Robot(made, time, charge)
            self.stays(robot, made, charge, self.answers, (), robot.tried, ())

    def test_ordinary(self):
        robot = Robot(GATE, 5, 0)
        for verdicts, readings in (
                (("sure",), (GONE,)), (("sure", "ended"), (GONE, GONE)), (("lost",), (STOPPED,)),
                (("lost", "lost", "lost"), (STOPPED, GONE, GONE))):
            self.stays(robot, GATE, 0, self.answers, verdicts, robot.tried, readings)

    def test_readings_behind_the_end(self):
        robot = Robot(GATE, 5, 0)
        self.stays(robot, GATE, 0, self.answers, ("sure", "ended"), robot.tried, (GONE, GONE, STOPPED, (7,), GONE))
        made = free_book(plan=("a.",), sensors=(BUMP,))
        robot = Robot(made, 5, 0)
        self.stays(robot, made, 0, self.answers, (), robot.tried, (GONE, (7,)))

    def test_one_that_does_not_fit(self):
        robot = Robot(GATE, 5, 0)
        for at, readings in ((0, ((7,),)), (1, (GONE, STOPPED)), (2, (STOPPED, GONE, STOPPED, GONE))):
            self.stays(robot, GATE, 0, self.raises, Misfit, {"at": at}, robot.tried, readings)
        robot.tell_reading(STOPPED)
        robot.tell_cell(0)
        for at, readings in ((1, (STOPPED,)), (3, (GONE, GONE, STOPPED))):
            self.stays(robot, GATE, 0, self.raises, Misfit, {"at": at}, robot.tried, readings)


class TestWalkThrough(RobotCase):

    def test_no_reading(self):
        robot = Robot(GATE, 5, 0)
        self.stays(robot, GATE, 0, self.assertEqual, list(robot.walk_through(())), [])

    def test_a_walk_to_the_last_reading(self):
        robot = Robot(LINE, 5, 0)
        self.assertEqual(list(robot.walk_through(((), ()))), [(EAST, "sure"), (EAST, "sure")])
        self.stands(robot, LINE, 0, 3, robot.present, (("reading", EAST, ()),) * 2)

    def test_a_walk_that_stops_at_the_end(self):
        robot = Robot(GATE, 5, 0)
        walk = robot.walk_through((GONE, GONE, (7,), STOPPED))
        self.assertEqual(list(walk), [(EAST, "sure"), (EAST, "ended")])
        self.stands(robot, GATE, 0, 3, robot.present, (("reading", EAST, GONE),) * 2)
        self.assertEqual(list(robot.walk_through(((7,),))), [])

    def test_each_reading_is_told_when_it_is_asked_for(self):
        robot = Robot(LINE, 5, 0)
        walk = robot.walk_through(((),) * 3)
        self.assertIs(iter(walk), walk)
        self.assertEqual(robot.log, ())
        for many in range(1, 4):
            self.assertEqual(next(walk), (EAST, "ended" if many == 3 else "sure"))
            self.assertEqual(len(robot.log), many)
        self.assertEqual(list(walk), [])

    def test_a_walk_that_is_left_early(self):
        robot = Robot(LINE, 5, 0)
        for told in robot.walk_through(((),) * 9):
            self.assertEqual(told, (EAST, "sure"))
            break
        self.stands(robot, LINE, 0, 4, robot.present, (("reading", EAST, ()),))
        self.assertEqual(robot.tell_reading(()), "sure")

    def test_a_walk_that_meets_a_misfit(self):
        robot = Robot(GATE, 5, 0)
        walk = robot.walk_through((STOPPED, GONE, STOPPED, GONE))
        self.assertEqual([next(walk), next(walk)], [(EAST, "lost"), (WAIT, "lost")])
        with self.assertRaises(Misfit) as caught:
            next(walk)
        self.assertEqual(caught.exception.at, 2)
        self.stands(robot, GATE, 0, 3, robot.present, (("reading", EAST, STOPPED), ("reading", WAIT, GONE)))
        self.assertEqual(list(walk), [])

    def test_news_between(self):
        robot = Robot(TWO_WAYS, 6, 0)
        walk = robot.walk_through((STOPPED, GONE, GONE))
        self.assertEqual(next(walk), (EAST, "sure"))
        robot.tell_rule(("least", 1, (1,)))
        self.assertEqual(list(walk), [(WEST, "sure"), (WEST, "ended")])
        with robot.trial():
            self.assertEqual(list(robot.walk_through((GONE,))), [])


class TestAlong(RobotCase):

    def test_the_empty_log(self):
        for made, time, charge in ROBOTS:
            robot = Robot.along(made, time, charge, ())
            self.assertIs(type(robot), Robot)
            self.assertEqual(robot.state, Robot(made, time, charge).state)

    def test_the_log_of_another_robot(self):
        robot = Robot(TWO_WAYS, 4, 0)
        robot.tell_reading(STOPPED)
        robot.tell_rule(("most", 1, (1, 2)))
        robot.tell_reading(GONE)
        robot.tell_cell(1)
        made = Robot.along(TWO_WAYS, 4, 0, robot.log)
        self.assertEqual(made.state, robot.state)
        self.stands(made, TWO_WAYS, 0, 2, robot.present, robot.log)
        self.assertEqual(made.tell_reading(GONE), "ended")

    def test_commands_that_are_not_the_robots(self):
        for command in (WAIT, NORTH, WEST, -1, 1000):
            robot = Robot.along(GATE, 5, 0, (("reading", command, GONE), ("cell", 1), ("reading", command, GONE)))
            self.assertEqual(robot.log, (("reading", EAST, GONE), ("cell", 1), ("reading", EAST, GONE)))
            self.assertEqual((robot.verdict, robot.time_left), ("ended", 3))

    def test_what_it_raises(self):
        self.raises(Misfit, {"at": 1}, Robot.along, GATE, 5, 0, (("reading", EAST, GONE), ("cell", 0)))
        self.raises(Misfit, {"at": 1}, Robot.along, GATE, 5, 0, (("reading", EAST, GONE), ("reading", EAST, STOPPED)))
        self.raises(Misfit, {"at": 0}, Robot.along, GATE, 5, 0, (("rule", ("least", 2, (1, -1))),))
        ended = (("reading", EAST, GONE),) * 3
        self.raises(Ended, {}, Robot.along, GATE, 5, 0, ended)
        self.raises(TooMany, LIMIT, Robot.along, CAGED, 5, 0, (("cell", 0),))
        self.raises(NotSafe, {}, Robot.along, book(plan=(".",), task=TO_A), 5, 3, (("cell", 7),))
        self.raises(TooLarge, {"part": "worlds"}, Robot.along, book(
            plan=("........",) * 4, battery=("battery", 12, 1, 1, 1, 1)), 60, 0, (("cell", 63),))


class TestSeveralRobots(RobotCase):

    def test_they_do_not_share_anything(self):
        first, second = Robot(GATE, 5, 0), Robot(GATE, 5, 0)
        first.tell_reading(GONE)
        self.stands(second, GATE, 0, 5, second.present, ())
        second.tell_reading(STOPPED)
        self.assertEqual((first.verdict, second.verdict), ("sure", "lost"))
        log, state = first.log, first.state
        first.tell_reading(GONE)
        self.assertEqual((log, state[2]), ((("reading", EAST, GONE),),) * 2)


class TestClass(RobotCase):

    def test_each_method_stands_in_the_body_of_the_class(self):
        for name in ("possible", "map_now", "cells_now", "next_command", "tell_reading", "tell_rule", "tell_cell",
                     "resume", "trial", "tried", "walk_through", "along", "present", "time_left", "verdict",
                     "steps_left", "log", "state"):
            self.assertIn(name, vars(Robot))
        for name in ("present", "time_left", "verdict", "steps_left", "log", "state"):
            self.assertIsInstance(vars(Robot)[name], property)
            self.assertEqual(vars(Robot)[name].fset is not None, name == "state")
        self.assertIsInstance(vars(Robot)["along"], classmethod)


if __name__ == "__main__":
    unittest.main()
