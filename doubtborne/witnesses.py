"""Runs that fit a history, and the readings of it that must be wrong."""

from doubtborne.filtering import worlds_to
from doubtborne.sets import common
from doubtborne.tables import NO_READING, after


def witness(table, start, history, world):
    """The first run that fits the history and ends in the world, or None."""
    leading = _worlds_leading_to(table, history, world)
    begins = common(start, leading[0])
    if len(begins) == 0:
        return None
    # The least world that can still lead to the end is always the right one to go on with.
    run = [begins[0]]
    for at, (command, reading) in enumerate(history):
        reached = after(table, (run[-1],), command, reading)
        run.append(common(reached, leading[at + 1])[0])
    return tuple(run)


def _worlds_leading_to(table, history, world):
    """For each moment of the history the worlds from which the rest of it may lead to the world."""
    everywhere = tuple(range(len(table)))
    found = [(world,)]
    for command, reading in reversed(history):
        found.append(worlds_to(table, everywhere, command, reading, found[-1]))
    return found[::-1]


def judge_run(table, start, history, run):
    """Whether the run fits the start and the history."""
    if len(run) != len(history) + 1 or run[0] not in start:
        return False
    # A world is looked at only when it is known to be one of the table.
    for at, (command, reading) in enumerate(history):
        if reading == NO_READING or (reading, run[at + 1]) not in table[run[at]][command]:
            return False
    return True


def doubted(table, start, history):
    """The first one of the smallest sets of pairs of the history but for which some run fits, or None."""
    # For each world where a run may end, the first one of the smallest sets with which one does.
    least = {world: () for world in start}
    for at, (command, reading) in enumerate(history):
        least = _least_doubts_behind(table, least, at, command, reading)
    if len(least) == 0:
        return None
    return min([_by_size(least[world]) for world in least])[1]


def _least_doubts_behind(table, least, at, command, reading):
    """The least sets behind the pair with this number, from those ahead of it."""
    found = {}
    for world in least:
        for shown, behind in table[world][command]:
            doubts = least[world] if shown == reading else least[world] + (at,)
            if shown != NO_READING and (behind not in found or _by_size(doubts) < _by_size(found[behind])):
                found[behind] = doubts
    return found


def _by_size(doubts):
    """What orders sets by their sizes, and those of one size as tuples compare."""
    return (len(doubts), doubts)
