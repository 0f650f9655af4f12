"""Filters, which go along a history pair by pair."""

from doubtborne.errors import Misfit
from doubtborne.tables import after
from doubtborne.trials import Trial


class Filter:
    """Where the robot may be, from a start on, behind each pair of a history."""

    def __init__(self, table, start):
        self.table = table
        # The history gone, and all beliefs from the start to the present one.
        self.held = ((), (start,))

    @classmethod
    def along(cls, table, start, history):
        """A filter that has gone the history; raises Misfit."""
        made = cls(table, start)
        for command, reading in history:
            made.go_on(command, reading)
        return made

    @property
    def present(self):
        """The present belief."""
        return self.held[1][-1]

    @property
    def gone(self):
        """The history gone so far."""
        return self.held[0]

    @property
    def state(self):
        """The history gone, and all beliefs from the start to the present one."""
        return self.held

    @state.setter
    def state(self, value):
        self.held = value

    def resume(self, state):
        """Goes on from the state of a filter of the same table and start."""
        self.held = state

    def go_on(self, command, reading):
        """Goes on by one pair, and returns the new belief; raises Misfit."""
        gone, beliefs = self.held
        belief = after(self.table, beliefs[-1], command, reading)
        if len(belief) == 0:
            raise Misfit(len(gone))
        self.held = (gone + ((command, reading),), beliefs + (belief,))
        return belief

    def each_belief(self):
        """Yields the beliefs from the start to the one that is present when the walk begins."""
        # What is held is replaced when the filter goes on, and never changed, so a walk keeps what it began with.
        for belief in self.held[1]:
            yield belief

    def trial(self):
        """What stands behind with: puts the state back when the block ends."""
        return Trial(self)

    def tried(self, history):
        """The belief behind the pairs of the history, which are gone in a trial; raises Misfit."""
        with self.trial():
            for command, reading in history:
                self.go_on(command, reading)
            found = self.present
        return found
