"""Where the robot may be, and may have been, by what was commanded and read."""

from doubtborne.errors import Misfit
from doubtborne.tables import after


def filtered(table, start, history):
    """The beliefs behind the first 0, 1, 2, .. pairs of the history; raises Misfit."""
    found = [start]
    for at, (command, reading) in enumerate(history):
        belief = after(table, found[-1], command, reading)
        if len(belief) == 0:
            raise Misfit(at)
        found.append(belief)
    return tuple(found)


def past(table, start, history):
    """For each of these moments the worlds of all runs that fit the whole history; raises Misfit."""
    beliefs = filtered(table, start, history)
    found = [beliefs[-1]]
    for at in reversed(range(len(history))):
        command, reading = history[at]
        found.append(worlds_to(table, beliefs[at], command, reading, found[-1]))
    return tuple(found[::-1])


def worlds_to(table, worlds, command, reading, aims):
    """The set of those of the worlds from which the command may lead with the reading to one of the aims."""
    known = {aim: True for aim in aims}
    return tuple([world for world in worlds if _leads_to(table[world][command], reading, known)])


def _leads_to(outcomes, reading, aims):
    """True if one of the aims stands with the reading in the outcomes."""
    return any(shown == reading and behind in aims for shown, behind in outcomes)
