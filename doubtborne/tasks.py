"""Tasks: trees that tell what is to be done, and what is left of them behind a moment."""

DONE = ("done",)
FAIL = ("fail",)
# The greatest number of within.
MOST_NUMBER = 60


def outcome(task, marks):
    """What becomes of a task that begins at the first of these marks, with the moment if it is done or fails."""
    for moment, mark in enumerate(marks):
        task = rest(task, mark)
        if status(task) != "going":
            return (status(task), moment)
    return ("going",)


def status(task):
    """The word for how far the task is: "done", "fail" or "going"."""
    return task[0] if task in (DONE, FAIL) else "going"


def parts_of(task):
    """The tasks that a task is made of, in order."""
    if task[0] in ("then", "both", "either"):
        return task[1:]
    return task[2:] if task[0] in ("without", "within") else ()


def rest(task, mark):
    """The rest of the task behind a moment with this mark."""
    if task[0] == "at":
        return DONE if task[1] == mark else task
    if task[0] == "then":
        return _rest_of_then(task, mark)
    if task[0] == "both":
        return _rest_of_pair(task, mark, FAIL, DONE)
    if task[0] == "either":
        return _rest_of_pair(task, mark, DONE, FAIL)
    if task[0] == "without":
        return _rest_of_bounded(task, mark, task[1] == mark, task[1])
    if task[0] == "within":
        return _rest_of_bounded(task, mark, task[1] == 0, task[1] - 1)
    return task


def _rest_of_then(task, mark):
    """The rest of a task that does its second part when the first one is done."""
    first = rest(task[1], mark)
    if first == DONE:
        return rest(task[2], mark)
    return FAIL if first == FAIL else ("then", first, task[2])


def _rest_of_pair(task, mark, settles, leaves):
    """The rest of both or either: one rest of a part settles it, another one leaves it to the other part."""
    first = rest(task[1], mark)
    second = rest(task[2], mark)
    if settles in (first, second):
        return settles
    if first == leaves:
        return second
    return first if second == leaves else (task[0], first, second)


def _rest_of_bounded(task, mark, is_over, number):
    """The rest of without or within, which fails where it is over, and else goes on with the number."""
    part = rest(task[2], mark)
    if part in (DONE, FAIL):
        return part
    return FAIL if is_over else (task[0], number, part)
