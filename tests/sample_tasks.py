"""Tasks to try, and what the document says of them, as straight as it says it."""

from itertools import product

DONE, FAIL = ("done",), ("fail",)


def tasks_of(nodes, marks=(1, 2), numbers=(0, 2)):
    """All tasks with so many nodes, with these marks and these numbers of within."""
    if nodes == 1:
        return [DONE, FAIL] + [("at", mark) for mark in marks]
    found = []
    for part in tasks_of(nodes - 1, marks, numbers):
        found += [("without", mark, part) for mark in marks]
        found += [("within", number, part) for number in numbers]
    for first in range(1, nodes - 1):
        pairs = list(product(tasks_of(first, marks, numbers), tasks_of(nodes - 1 - first, marks, numbers)))
        found += [(word, t, u) for word in ("then", "both", "either") for t, u in pairs]
    return found


def end_of(task, marks, begin):
    """("done", k) or ("fail", k) for a task that begins at this moment, or None: point 24, word for word."""
    word = task[0]
    if word in ("done", "fail"):
        return (word, begin)
    if word == "at":
        found = [k for k in range(begin, len(marks)) if marks[k] == task[1]]
        return ("done", found[0]) if found else None
    if word == "then":
        first = end_of(task[1], marks, begin)
        return end_of(task[2], marks, first[1]) if first and first[0] == "done" else first
    if word in ("both", "either"):
        return end_of_pair(word, [end_of(part, marks, begin) for part in task[1:]])
    part = end_of(task[2], marks, begin)
    if word == "without":
        found = [k for k in range(begin, len(marks)) if marks[k] == task[1]]
        if found and not (part and part[1] <= found[0]):
            return ("fail", found[0])
        return part
    last = begin + task[1]
    if part and part[1] <= last:
        return part
    return ("fail", last) if last < len(marks) else None


def end_of_pair(word, ends):
    """The end of both or either, from those of its parts."""
    needed, enough = ("done", "fail") if word == "both" else ("fail", "done")
    one = [end[1] for end in ends if end and end[0] == enough]
    if one:
        return (enough, min(one))
    if None in ends:
        return None
    return (needed, max(end[1] for end in ends))


def outcome_by_definition(task, marks):
    """What becomes of a task that begins at moment 0."""
    return end_of(task, marks, 0) or ("going",)


def rest_by_definition(task, mark):
    """The rest, row by row as point 25 tells it."""
    word = task[0]
    if word in ("done", "fail"):
        return task
    if word == "at":
        return DONE if task[1] == mark else task
    if word in ("without", "within"):
        part = rest_by_definition(task[2], mark)
        if part in (DONE, FAIL):
            return part
        if word == "without":
            return FAIL if task[1] == mark else ("without", task[1], part)
        return FAIL if task[1] == 0 else ("within", task[1] - 1, part)
    first, second = rest_by_definition(task[1], mark), rest_by_definition(task[2], mark)
    if word == "then":
        return second if first == DONE else FAIL if first == FAIL else ("then", first, task[2])
    if word == "both":
        if FAIL in (first, second):
            return FAIL
        return second if first == DONE else first if second == DONE else ("both", first, second)
    if DONE in (first, second):
        return DONE
    return second if first == FAIL else first if second == FAIL else ("either", first, second)


def residuals_by_definition(task, marks):
    """The task and all its rests, as a set."""
    found = {task}
    waiting = [task]
    while waiting:
        one = waiting.pop()
        for mark in marks:
            behind = rest_by_definition(one, mark)
            if behind not in found:
                found.add(behind)
                waiting.append(behind)
    return found


def status_by_definition(task):
    """The status of a tree."""
    return task[0] if task in (DONE, FAIL) else "going"
