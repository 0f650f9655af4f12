"""The promises over the whole program: whatever happens within the bounds of a book, a robot is right about it."""

import unittest
from random import Random

from doubtborne.books import check_book
from doubtborne.courses import judge_course
from doubtborne.errors import DoubtError, Misfit, NotBorne, NotSafe, TooLarge, TooMany
from doubtborne.legs import cut, joined, judge_chain
from doubtborne.modelgoals import flags, task_goals
from doubtborne.models import model_of
from doubtborne.policies import command_of, find_policy, judge_policy
from doubtborne.refutations import find_refutation, judge_refutation
from doubtborne.robots import Robot
from doubtborne.solving import solved
from doubtborne.tightening import carried, tighter
from doubtborne.twins import known_within
from doubtborne.verdicts import find_loss, hope, judge_loss, verdict_of
from doubtborne.walls import with_wall
from tests.answers import AnswerCase
from tests.sample_books import PLAIN, book, keeps_rules, outcomes_by_definition, starts_by_definition
from tests.sample_robots import (
    BUMP, ROBOTS, TO_A, cost_by_definition, free_book, known_at_the_start, known_behind, true_rules)
from tests.test_tightening import RIGHT_PAIRS

DONE = ("done",)
# Where the verdict can go to by a reading, and by news.
BY_READING = {"maybe": ("maybe", "sure", "ended", "lost"), "sure": ("sure", "ended"), "lost": ("lost", "ended")}
BY_NEWS = {"maybe": ("maybe", "sure", "ended", "lost"), "sure": ("sure", "ended"),
           "lost": ("lost", "maybe", "sure", "ended"), "ended": ("ended",)}


def drawn_book(seed):
    """A small book of which each part is drawn; one seed gives one book."""
    dice = Random(seed)
    lines, width = dice.choice(((1, 4), (2, 3), (1, 5), (3, 2), (2, 2)))
    signs = [dice.choice("....,+a#*!1A") for _ in range(lines * width)]
    signs[dice.randrange(len(signs))] = "a"
    plan = tuple("".join(signs[at:at + width]) for at in range(0, len(signs), width))
    sensors = tuple(dice.sample((BUMP, ("range", 1, 2, 0), ("range", 2, 2, 1), ("mark", ((0, 1),)), ("near", 1, 2)), 1))
    cell = dice.randrange(len(signs))
    movers = (("mover", (cell, dice.randrange(len(signs))), ((0, 1), (0,))),) if dice.random() < 0.3 else ()
    faults = dice.choice(((), (), (("dead", 0),), (("drift", 2, (0, 0)),)))
    battery = dice.choice((
        ("battery", 0, 0, 0, 0, 0), ("battery", 4, 1, 1, 2, 3), ("battery", 3, 0, 1, 1, 0)))
    return book(
        plan=plan, sensors=sensors, pushes=dice.choice((PLAIN, (((0,), (0, 1)), ((), (0,))), (((), (0,)), ((0,),)))),
        movers=movers, faults=faults, most=len(faults), battery=battery,
        task=dice.choice((TO_A, ("within", 5, TO_A), ("then", TO_A, ("without", 1, DONE)), ("fail",))),
        cells=tuple(sorted(dice.sample(range(len(signs)), 2))), posts=((0, 1),) * len(movers))


def drawn_robots(many):
    """So many drawn books with times and charges with which a robot can be made."""
    found = []
    seed = 0
    while len(found) < many:
        seed += 1
        made = drawn_book(seed)
        time, charge = seed % 7, seed % (made[8][1] + 1)
        try:
            check_book(made)
            Robot(made, time, charge)
        except DoubtError:
            continue
        found.append((made, time, charge))
    return found


DRAWN = drawn_robots(60)


class WholeCase(AnswerCase):

    def knows(self, robot, known):
        """The robot's belief has exactly these worlds and charges."""
        self.assertEqual(set(robot.possible()), known)
        self.assertEqual(len(robot.possible()), len(known))
        self.assertTrue(all(charge >= 0 for _, charge in known))
        self.assertEqual(robot.cells_now(), tuple(sorted({world[1] for world, _ in known})))


class TestWholeCourses(WholeCase):

    def test_robots(self):
        seen = set()
        for made, time, charge in ROBOTS:
            self.explore(made, Robot(made, time, charge), known_at_the_start(made, charge), 6, seen)
        self.assertGreaterEqual(seen, {
            ("maybe", "maybe"), ("maybe", "sure"), ("maybe", "lost"), ("sure", "sure"), ("sure", "ended"),
            ("lost", "lost"), ("maybe", "ended")})

    def test_drawn_robots(self):
        seen = set()
        for made, time, charge in DRAWN:
            self.explore(made, Robot(made, time, charge), known_at_the_start(made, charge), 4, seen)
        self.assertGreaterEqual(seen, {("maybe", "sure"), ("sure", "ended"), ("lost", "lost"), ("sure", "sure")})

    def explore(self, made, robot, known, depth, seen):
        """Whatever is read in so many steps, the robot is right."""
        self.knows(robot, known)
        verdict, steps, time = robot.verdict, robot.steps_left, robot.time_left
        self.assertNotEqual(verdict, "danger")
        if verdict == "ended":
            self.assertTrue(all(world[4] == DONE for world, _ in known))
            return
        if verdict == "sure":
            self.assertTrue(1 <= steps <= time)
        if depth == 0:
            return
        behind = known_behind(made, known, robot.next_command())
        self.assertNotIn(None, behind)
        for reading, others in behind.items():
            with robot.trial():
                self.assertEqual(robot.tell_reading(reading), robot.verdict)
                self.assertIn(robot.verdict, BY_READING[verdict])
                seen.add((verdict, robot.verdict))
                if verdict == "sure":
                    self.assertLess(robot.steps_left, steps)
                if (verdict, robot.verdict) == ("lost", "ended"):
                    self.assertEqual(time, 0)
                self.explore(made, robot, others, depth - 1, seen)
        for reading in set(model_of(made)[2]) - set(behind):
            self.raises(Misfit, {}, robot.tell_reading, reading)

    def test_sure_robots_are_done_in_time(self):
        for made, time, charge in ROBOTS + tuple(DRAWN):
            robot = Robot(made, time, charge)
            if robot.verdict == "sure":
                self.goes_to_the_end(robot, made, known_at_the_start(made, charge))

    def goes_to_the_end(self, robot, made, known):
        """Whatever is read, the task is done in all worlds at last, within the time."""
        if robot.verdict == "ended":
            self.assertTrue(all(world[4] == DONE for world, _ in known))
            return
        self.assertGreaterEqual(robot.time_left, 1)
        for reading, others in known_behind(made, known, robot.next_command()).items():
            with robot.trial():
                robot.tell_reading(reading)
                self.goes_to_the_end(robot, made, others)


class TestNews(WholeCase):

    def test_news_that_are_true_of_the_course(self):
        told = 0
        for seed, (made, time, charge) in enumerate(ROBOTS + tuple(DRAWN)):
            dice = Random(seed)
            robot = Robot(made, time, charge)
            course = (dice.choice(starts_by_definition(made)),)
            known = known_at_the_start(made, charge)
            left = charge
            commands, readings = (), ()
            for _ in range(5):
                known = self.tell_news(robot, made, known, course[-1], dice)
                told += 1
                if robot.verdict == "ended":
                    break
                command = robot.next_command()
                left = min(made[8][1], left - cost_by_definition(made, course[-1], command))
                touch, pairs = outcomes_by_definition(made, course[-1], command)
                self.assertEqual(touch, 0)
                reading, behind = dice.choice(pairs)
                known = known_behind(made, known, command)[reading]
                robot.tell_reading(reading)
                course, commands, readings = course + (behind,), commands + (command,), readings + (reading,)
                self.knows(robot, known)
                self.assertIn((behind, left), known)
                self.assertGreaterEqual(left, 0)
                self.says(True, judge_course, made, (course, commands, readings))
            self.assertEqual(tuple(entry[1] for entry in robot.log if entry[0] == "reading"), commands)
            self.assertEqual(Robot.along(made, time, charge, robot.log).state, robot.state)
        self.assertGreater(told, 100)

    def tell_news(self, robot, made, known, world, dice):
        """Tells one thing that is true of the world, or none, and returns what is known then."""
        before = robot.verdict
        choice = dice.choice(("rule", "cell", "none", "none"))
        rules = true_rules(made, world)
        try:
            if choice == "rule" and rules:
                rule = dice.choice(rules)
                robot.tell_rule(rule)
                known = {pair for pair in known if keeps_rules((rule,), pair[0][0])}
            elif choice == "cell":
                robot.tell_cell(world[1])
                known = {pair for pair in known if pair[0][1] == world[1]}
        except TooMany:
            pass
        self.knows(robot, known)
        self.assertIn(robot.verdict, BY_NEWS[before])
        return known


class TestLosing(WholeCase):

    def test_not_earlier_than_all_is_lost(self):
        words = set()
        for made, time, charge in ROBOTS + tuple(DRAWN):
            robot = Robot(made, time, charge)
            self.follow(robot, words, 3)
        self.assertEqual(words, {"ended", "sure", "maybe", "lost"})

    def follow(self, robot, words, depth):
        """A lost robot has a loss paper, and another one a hope, a policy or an end."""
        words.add(robot.verdict)
        parts = (robot.table, robot.goals, robot.present, robot.time_left)
        self.assertEqual(verdict_of(*parts), robot.verdict)
        if robot.verdict == "lost":
            self.says(True, judge_loss, *parts, find_loss(*parts))
        elif robot.verdict == "maybe":
            self.hopes(robot, hope(*parts))
        else:
            policy = find_policy(*parts[:3])
            self.says(True, judge_policy, *parts, policy)
        if robot.verdict != "ended" and depth > 0:
            for number in range(len(robot.model[2])):
                with robot.trial():
                    try:
                        robot.tell_reading(robot.model[2][number])
                    except Misfit:
                        continue
                    self.follow(robot, words, depth - 1)

    def hopes(self, robot, found):
        """If all is read that is hoped for, the robot becomes sure, or is at the end."""
        self.assertEqual(robot.next_command(), found[0][0])
        readings = tuple(robot.model[2][reading] for _, reading in found)
        verdicts = robot.tried(readings)
        self.assertEqual(verdicts[:-1], ("maybe",) * (len(found) - 1))
        self.assertIn(verdicts[-1], ("sure", "ended"))


class TestPapers(WholeCase):

    def test_policies_and_refutations_of_the_charged_tables(self):
        found = set()
        for made, time, charge in ROBOTS:
            robot = Robot(made, time, charge)
            parts = (robot.table, robot.goals, robot.present)
            steps = robot.steps_left
            found.add(steps is None)
            if steps is None:
                refutation = find_refutation(*parts, None)
                self.says(True, judge_refutation, *parts, None, refutation)
                self.raises(NotBorne, {}, find_policy, *parts)
                continue
            policy = find_policy(*parts)
            self.says(True, judge_policy, *parts, steps, policy)
            triples = dict((triple[0], triple[1:]) for triple in solved(*parts))
            self.assertEqual(triples[robot.present][0], steps)
            if steps > 0:
                self.says(False, judge_policy, *parts, steps - 1, policy)
                self.assertIn(triples[robot.present][1], range(5))
                self.assertIsNotNone(command_of(policy, robot.present))
            for cuts in ((), tuple(range(steps - 1, 0, -1)), (1,) if steps > 1 else ()):
                chain = cut(robot.goals, robot.present, steps, policy, cuts)
                self.says(True, judge_chain, *parts, chain)
                self.says(True, judge_policy, *parts, steps, joined(chain))
        self.assertEqual(found, {True, False})


class TestTighterBooks(WholeCase):

    def test_each_course_of_a_tighter_book_is_one_of_the_other_book(self):
        for less, more in RIGHT_PAIRS:
            self.says(True, tighter, less, more)
            for seed in range(20):
                dice = Random(seed)
                course = self.drawn_course(less, dice)
                self.says(True, judge_course, less, course)
                self.says(True, judge_course, more, course)

    def drawn_course(self, made, dice):
        """A course of the book with commands that do not touch."""
        worlds, commands, readings = (dice.choice(starts_by_definition(made)),), (), ()
        for _ in range(5):
            command = dice.randrange(5)
            touch, pairs = outcomes_by_definition(made, worlds[-1], command)
            if pairs:
                reading, behind = dice.choice(pairs)
                worlds, commands, readings = worlds + (behind,), commands + (command,), readings + (reading,)
        return worlds, commands, readings

    def test_a_robot_of_a_tighter_book_does_not_need_more_steps(self):
        for less, more in RIGHT_PAIRS:
            less, more = (made[:8] + (("battery", 0, 0, 0, 0, 0),) + made[9:] for made in (less, more))
            first, second = Robot(less, 60, 0), Robot(more, 60, 0)
            if second.steps_left is not None:
                self.assertLessEqual(first.steps_left, second.steps_left)
                policy = find_policy(second.model[3], task_goals(second.model), second.model[4])
                found = carried(policy, second.model, first.model)
                table, start = first.model[3:5]
                self.says(True, judge_policy, table, task_goals(first.model), start, second.steps_left, found)


class TestSeveralModules(WholeCase):

    def test_a_book_from_its_texts_to_its_end(self):
        made = free_book(plan=(".1a", "..."), sensors=(("range", 1, 2, 0),), cells=(0, 3), task=("within", 9, TO_A))
        self.assertIsNone(check_book(made))
        robot = Robot(made, 9, 0)
        self.assertEqual((robot.verdict, robot.cells_now(), robot.map_now()), ("sure", (0, 3), ()))
        readings = []
        while robot.verdict == "sure":
            reading = sorted(known_behind(made, set(robot.possible()), robot.next_command()))[0]
            readings.append(reading)
            robot.tell_reading(reading)
        self.assertEqual(robot.verdict, "ended")
        walk = Robot(made, 9, 0).walk_through(tuple(readings))
        self.assertEqual([command for command, _ in walk], [entry[1] for entry in robot.log])

    def test_a_wall_changes_what_is_sure(self):
        made = free_book(plan=("..a", "..."), cells=(0,))
        _, worlds, _, table, other, start = with_wall(made, 1)
        goals = (tuple(number for number, world in enumerate(worlds) if world[4] == DONE),)
        for one, steps in ((table, 2), (other, 4)):
            triples = [triple for triple in solved(one, goals, start) if triple[0] == start]
            self.assertEqual(triples[0][1], steps)

    def test_faults_of_a_model_are_flags(self):
        made = book(plan=(".#",), sensors=(BUMP,), faults=(("dead", 0),), most=1)
        model = model_of(made)
        # Whoever waits never knows; but by going against the wall it is known at once.
        self.answers(None, known_within, model[3], flags(model, 0), model[4])
        going = tuple((row[2],) for row in model[3])
        self.answers(0, known_within, going, flags(model, 0), model[4])

    def test_robots_that_cannot_be_made(self):
        kinds = set()
        for seed in range(300):
            made = drawn_book(seed)
            try:
                check_book(made)
            except DoubtError:
                continue
            try:
                Robot(made, 3, made[8][1])
            except DoubtError as error:
                kinds.add(type(error))
        self.assertLessEqual(kinds, {NotSafe, TooMany, TooLarge})
        self.assertIn(NotSafe, kinds)


if __name__ == "__main__":
    unittest.main()
