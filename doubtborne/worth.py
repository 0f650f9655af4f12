"""What knowing is worth."""

from doubtborne.sets import common
from doubtborne.webs import steps_of


def price_of_doubt(table, goals, start, parts):
    """The steps of the start, and of what is common to it and each of the parts; raises TooMany."""
    return (
        steps_of(table, goals, start),
        tuple([_steps_if_any(table, goals, common(start, part)) for part in parts]),
    )


def _steps_if_any(table, goals, worlds):
    """The steps of the worlds, 0 if there are none."""
    return steps_of(table, goals, worlds) if len(worlds) > 0 else 0


def doors_worth_knowing(model, goals):
    """The doors with which settling helps, ascending; raises TooMany."""
    doors = range(1, len(model[1][0][0]) + 1)
    # The limit counts all beliefs that are named, so each door is looked at also where the start is borne.
    settling = tuple([door for door in doors if _settles(model, goals, door)])
    return settling if steps_of(model[3], goals, model[4]) is None else ()


def _settles(model, goals, door):
    """True if the worlds of the start with the door shut, and those with it open, are each none or borne."""
    parts = [_start_with(model, door, state) for state in (0, 1)]
    return None not in [_steps_if_any(model[3], goals, part) for part in parts]


def _start_with(model, door, state):
    """The worlds of the start in which the door is open, 1, or shut, 0."""
    return tuple([world for world in model[4] if model[1][world][0][door - 1] == state])
