"""What can be noticed at all: traces that tell two beliefs apart."""

from doubtborne.errors import IsNoticed
from doubtborne.searching import first_ways
from doubtborne.sets import common
from doubtborne.tables import NO_READING, after, is_belief, may_touch, readings_after


def noticed(table, first, second):
    """The first one of the shortest traces that only one of the two beliefs allows, or None; raises TooMany."""
    ways = _ways_to_pairs(table, first, second)
    for pair in ways:
        apart = _differences(table, pair)
        if len(apart) > 0:
            return ways[pair] + (apart[0],)
    return None


def _ways_to_pairs(table, first, second):
    """For each pair of beliefs that is reached the first one of the shortest histories to it; raises TooMany."""
    return first_ways((first, second), lambda pair: _steps_from(table, pair))


def _steps_from(table, pair):
    """All (command, reading) that may come from both beliefs, ascending, each with the pair of the beliefs after it."""
    first, second = pair
    return [
        ((command, reading), (after(table, first, command, reading), after(table, second, command, reading)))
        for command in range(len(table[0]))
        for reading in common(readings_after(table, first, command), readings_after(table, second, command))
    ]


def _differences(table, pair):
    """All (command, reading) that may come from just one of the beliefs, ascending; the reading of a touch is -1."""
    first, second = pair
    return [
        (command, reading)
        for command in range(len(table[0]))
        for reading in sorted(set(_shown(table, first, command)) ^ set(_shown(table, second, command)))
    ]


def _shown(table, belief, command):
    """The readings that may come, with -1 if the command may touch."""
    readings = readings_after(table, belief, command)
    return (NO_READING,) + readings if may_touch(table, belief, command) else readings


def find_unnoticed(table, first, second):
    """A right paper that no trace tells the two beliefs apart; raises TooMany, then IsNoticed."""
    pairs = tuple(_ways_to_pairs(table, first, second))
    if any(len(_differences(table, pair)) > 0 for pair in pairs):
        raise IsNoticed()
    return pairs


def judge_unnoticed(table, first, second, paper):
    """Whether the paper is right."""
    known = {pair: True for pair in paper}
    return (first, second) in known and all(_is_closed(table, known, pair) for pair in paper)


def _is_closed(table, known, pair):
    """True if they are two beliefs that show the same, and all pairs behind them are known."""
    if not is_belief(table, pair[0]) or not is_belief(table, pair[1]) or len(_differences(table, pair)) > 0:
        return False
    return all([behind in known for sign, behind in _steps_from(table, pair)])
