"""Residuals: what can be left of a task, and whether two tasks are alike."""

from doubtborne.errors import NotAlike
from doubtborne.searching import first_ways, search
from doubtborne.tasks import rest, status


def residuals(task, marks):
    """All residuals of the task, ascending; raises TooMany."""
    return tuple(sorted(search([task], lambda found: (None, [rest(found, mark) for mark in marks]))))


def parted(first, second, marks):
    """The first one of the shortest tuples behind which two statuses differ, or None; raises TooMany."""
    ways = _ways_to_pairs(first, second, marks)
    for pair in ways:
        if not _agree(pair):
            return ways[pair]
    return None


def _ways_to_pairs(first, second, marks):
    """For each pair of trees that is reached the first one of the shortest tuples that lead to it; raises TooMany."""
    return first_ways((first, second), lambda pair: _steps_from(pair, marks))


def _steps_from(pair, marks):
    """The marks with the pairs of the rests behind them, none if the statuses differ."""
    return list(zip(marks, _rests(pair, marks))) if _agree(pair) else []


def _rests(pair, marks):
    """The pairs of the rests behind each of the marks."""
    return [(rest(pair[0], mark), rest(pair[1], mark)) for mark in marks]


def _agree(pair):
    """True if both trees of the pair have one status."""
    return status(pair[0]) == status(pair[1])


def find_alike(first, second, marks):
    """A right paper that the tasks are alike; raises TooMany, then NotAlike."""
    pairs = tuple(_ways_to_pairs(first, second, marks))
    if not all(_agree(pair) for pair in pairs):
        raise NotAlike()
    return pairs


def judge_alike(first, second, marks, paper):
    """Whether the paper is right."""
    known = set(paper)
    for pair in paper:
        if not _agree(pair) or not all([behind in known for behind in _rests(pair, marks)]):
            return False
    return (first, second) in known
