"""The robot: what it knows, what it can hope for, and which command it gives."""

from doubtborne.charging import charged, charged_goals, with_charge, without_charge
from doubtborne.doors import keeps
from doubtborne.errors import Ended, Misfit, NotSafe
from doubtborne.modelfacts import cells_known, costs_of, map_known
from doubtborne.modelgoals import task_goals
from doubtborne.models import model_of
from doubtborne.safety import safe_command
from doubtborne.tables import NO_READING, after
from doubtborne.trials import Trial
from doubtborne.verdicts import outlook, weighed
from doubtborne.webs import best_command


class Robot:
    """A robot in the bounds of a book, with a time and a charge."""

    def __init__(self, book, time, charge):
        self.room = book[8][1]
        self.model = model_of(book)
        self.table = charged(self.model[3], costs_of(book, self.model), self.room)
        self.goals = charged_goals(task_goals(self.model), self.room)
        self.numbers = {reading: number for number, reading in enumerate(self.model[2])}
        belief = with_charge(self.model[4], charge, self.room)
        # An outlook serves for all beliefs of its web, so it is kept until a belief comes that is none of these.
        self.seen = outlook(self.table, self.goals, belief)
        # The present belief, the time left and the log, and behind them the verdict, the steps and the command.
        self.held = self._standing(belief, time, ())
        if self.held[3] == "danger":
            raise NotSafe()

    @classmethod
    def along(cls, book, time, charge, log):
        """A robot that has been told all entries of the log; raises what this raises."""
        made = cls(book, time, charge)
        for entry in log:
            made._tell(entry)
        return made

    def _tell(self, entry):
        """Tells what an entry of a log has."""
        if entry[0] == "reading":
            self.tell_reading(entry[2])
        elif entry[0] == "rule":
            self.tell_rule(entry[1])
        else:
            self.tell_cell(entry[1])

    def _standing(self, belief, time, log):
        """All that is held where this is the present belief, with this time left and this log; raises TooMany."""
        if belief not in self.seen[0]:
            self.seen = outlook(self.table, self.goals, belief)
        verdict, found = weighed(self.table, self.seen, belief, time)
        return (belief, time, log, verdict, self.seen[1].get(belief), self._command(belief, verdict, found))

    def _command(self, belief, verdict, found):
        """The command to give at the belief, by its verdict and the hope that was found."""
        moves, steps, dangers = self.seen
        if verdict == "sure":
            return best_command(moves, steps, belief)
        if verdict == "maybe":
            return found[0][0]
        return safe_command(moves[belief], dangers) if verdict == "lost" else None

    @property
    def present(self):
        """The present belief."""
        return self.held[0]

    @property
    def time_left(self):
        """The time left."""
        return self.held[1]

    @property
    def log(self):
        """All that was told, in order."""
        return self.held[2]

    @property
    def verdict(self):
        """The verdict for the present belief and the time left."""
        return self.held[3]

    @property
    def steps_left(self):
        """The steps of the present belief, or None."""
        return self.held[4]

    @property
    def state(self):
        """The present belief, the time left, and the log."""
        return self.held[:3]

    @state.setter
    def state(self, value):
        self.resume(value)

    def resume(self, state):
        """Goes on from the state of a robot made of the same things."""
        belief, time, log = state
        self.held = self._standing(belief, time, log)

    def _world(self, number):
        """The world of the model that this world of the charged table is."""
        return self.model[1][number // (self.room + 1)]

    def possible(self):
        """All pairs of a world and a charge that may be now, ascending."""
        return tuple([(self._world(number), number % (self.room + 1)) for number in self.present])

    def map_now(self):
        """The prime clauses of the settings that may be now, ascending."""
        return map_known(self.model, without_charge(self.present, self.room))

    def cells_now(self):
        """The set of the cells where the robot may be now."""
        return cells_known(self.model, without_charge(self.present, self.room))

    def next_command(self):
        """The command to give now, None if the verdict is ended."""
        return self.held[5]

    def tell_reading(self, reading):
        """Tells what was read behind the command, and returns the new verdict; raises Ended, then Misfit."""
        if self.verdict == "ended":
            raise Ended()
        command = self.next_command()
        belief = after(self.table, self.present, command, self.numbers.get(reading, NO_READING))
        return self._go_on(belief, max(0, self.time_left - 1), ("reading", command, reading))

    def tell_rule(self, rule):
        """Tells that a rule is kept, and returns the new verdict; raises Misfit, then TooMany."""
        belief = [number for number in self.present if keeps(rule, self._world(number)[0])]
        return self._go_on(tuple(belief), self.time_left, ("rule", rule))

    def tell_cell(self, cell):
        """Tells in which cell the robot is, and returns the new verdict; raises Misfit, then TooMany."""
        belief = [number for number in self.present if self._world(number)[1] == cell]
        return self._go_on(tuple(belief), self.time_left, ("cell", cell))

    def _go_on(self, belief, time, entry):
        """Goes on with this belief and time, and returns the new verdict; raises Misfit if the belief is empty."""
        if len(belief) == 0:
            raise Misfit(len([told for told in self.log if told[0] == "reading"]))
        self.held = self._standing(belief, time, self.log + (entry,))
        return self.verdict

    def trial(self):
        """What stands behind with: puts the state back when the block ends."""
        return Trial(self)

    def tried(self, readings):
        """The verdicts behind the readings, which are told in a trial until one is ended; raises Misfit."""
        found = []
        with self.trial():
            for reading in readings:
                if self.verdict != "ended":
                    found.append(self.tell_reading(reading))
        return tuple(found)

    def walk_through(self, readings):
        """Tells the readings, and yields for each one the command ahead of it and the verdict behind it."""
        for reading in readings:
            if self.verdict == "ended":
                return
            command = self.next_command()
            verdict = self.tell_reading(reading)
            yield (command, verdict)
