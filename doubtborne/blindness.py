"""Commands that are given blind, whatever is read."""

from doubtborne.searching import first_ways
from doubtborne.tables import ended, may_touch, worlds_behind


def blind(table, goals, start):
    """The first one of the shortest tuples of commands that are right blind for the start, or None; raises TooMany."""
    ways = first_ways(start, lambda worlds: _steps_from(table, goals, worlds))
    for worlds in ways:
        if ended(goals, worlds):
            return ways[worlds]
    return None


def _steps_from(table, goals, worlds):
    """The commands that may not touch, each one with the set to which it leads; none from an ended set."""
    if ended(goals, worlds):
        return []
    return [
        (command, worlds_behind(table, worlds, command))
        for command in range(len(table[0]))
        if not may_touch(table, worlds, command)
    ]
