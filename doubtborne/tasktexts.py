"""Texts of tasks."""

from doubtborne.plans import MARKS
from doubtborne.taskparsing import JOINTS


def task_text(task):
    """The text of the task."""
    return " ".join(_tokens(task, 0))


def _tokens(task, level):
    """The tokens of the task, in parentheses if it binds looser than the joint of this level."""
    for own, (word, name) in enumerate(JOINTS):
        if task[0] == name:
            # Joints associate to the left, so on their right one of the same level needs parentheses.
            found = _tokens(task[1], own) + [word] + _tokens(task[2], own + 1)
            return found if own >= level else ["("] + found + [")"]
    return _unit_tokens(task)


def _unit_tokens(task):
    """The tokens of a task that joins no others."""
    if task[0] == "at":
        return ["at", _letter(task[1])]
    if task[0] == "without":
        return ["without", _letter(task[1])] + _tokens(task[2], len(JOINTS))
    if task[0] == "within":
        return ["within", str(task[1])] + _tokens(task[2], len(JOINTS))
    return [task[0]]


def _letter(mark):
    """The letter of the mark."""
    return MARKS[mark - 1]
