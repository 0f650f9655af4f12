"""What is borne, refuted and told of the map agrees, for the goals of a model's settings, doors and cells."""

import unittest

from doubtborne.clauses import kept_by
from doubtborne.errors import NotBorne
from doubtborne.filters import Filter
from doubtborne.modelfacts import cells_known, map_known
from doubtborne.modelgoals import cell_goals, door_goals, map_goals, task_goals
from doubtborne.models import model_of
from doubtborne.policies import command_of, find_policy, judge_policy
from doubtborne.refutations import find_refutation, judge_refutation
from doubtborne.tables import after, both_goals, ended, readings_after
from doubtborne.webs import steps_of, web
from tests.answers import AnswerCase
from tests.sample_books import VARIED, book, doors_in

# The map is learned by looking north at the gate, and by going against it where nothing is seen.
LOOKING = book(plan=("1.", ".."), sensors=(("range", 0, 1, 0),), cells=(1, 3))
FEELING = book(plan=("1.2", ".#."), sensors=(("bump",), ("mark", ())), cells=(3,), rules=(("least", 1, (1, 2)),))
BLIND = book(plan=("1.", ".."), cells=(1, 3))
BOOKS = (VARIED[0], VARIED[1], LOOKING, FEELING, BLIND)


class TestMapsLearned(AnswerCase):

    def test_looking_and_feeling(self):
        self.answers(2, steps_of, *self.asked(LOOKING))
        self.answers(3, steps_of, *self.asked(FEELING))
        self.answers(None, steps_of, *self.asked(BLIND))

    def asked(self, made):
        """The table, the goals of the map, and the start of the book's model."""
        model = model_of(made)
        return model[3], map_goals(model), model[4]

    def test_ended_is_what_is_known(self):
        for made in BOOKS:
            model = model_of(made)
            for belief in web(model[3], (), model[4]):
                known = map_known(model, belief)
                left = kept_by(doors_in(made[1]), known)
                self.assertEqual(len(left) == 1, ended(map_goals(model), belief))
                self.assertEqual(len(cells_known(model, belief)) == 1, ended(cell_goals(model), belief))
                goals = both_goals(map_goals(model), cell_goals(model))
                self.assertEqual(len(left) == len(cells_known(model, belief)) == 1, ended(goals, belief))
                for door in range(1, doors_in(made[1]) + 1):
                    told = (door,) in known or (-door,) in known
                    self.assertEqual(told, ended(door_goals(model, door), belief))

    def test_borne_or_refuted(self):
        found = set()
        for made in BOOKS:
            model = model_of(made)
            for goals in (map_goals(model), cell_goals(model), task_goals(model)):
                for belief in web(model[3], (), model[4])[::5]:
                    found.add(self.one_of_both(model, goals, belief))
        self.assertEqual(found, {True, False})

    def one_of_both(self, model, goals, belief):
        """True if it is borne, and False if it is not; the policy, or else the refutation, is right."""
        table = model[3]
        try:
            policy = find_policy(table, goals, belief)
        except NotBorne:
            self.assertIsNone(steps_of(table, goals, belief))
            refutation = find_refutation(table, goals, belief, None)
            self.says(True, judge_refutation, table, goals, belief, None, refutation)
            return False
        steps = steps_of(table, goals, belief)
        self.says(True, judge_policy, table, goals, belief, steps, policy)
        self.follow(model, goals, policy, Filter(table, belief), steps)
        return True

    def follow(self, model, goals, policy, gone, steps):
        """Going by the policy, whatever is read, comes to a goal within the steps."""
        if ended(goals, gone.present):
            return
        self.assertGreater(steps, 0)
        command = command_of(policy, gone.present)
        for reading in readings_after(model[3], gone.present, command):
            with gone.trial():
                self.assertEqual(after(model[3], gone.present, command, reading), gone.go_on(command, reading))
                self.follow(model, goals, policy, gone, steps - 1)


if __name__ == "__main__":
    unittest.main()
