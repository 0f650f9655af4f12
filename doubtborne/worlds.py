"""Worlds of a book: those at the start, and those behind a step."""

from doubtborne.commands import ends_of
from doubtborne.doors import settings
from doubtborne.faults import broken_by, strikes
from doubtborne.meeting import meets
from doubtborne.plans import cell_kind, doors_of, mark_of
from doubtborne.readings import readings_at
from doubtborne.sets import one_of_each
from doubtborne.tasks import rest


def start_worlds(book):
    """All start worlds of the book, ascending."""
    _, plan, rules, _, _, movers, _, _, _, task, (cells, posts) = book
    rests = {cell: rest(task, mark_of(plan, cell)) for cell in cells}
    choices = one_of_each(posts)
    return tuple([
        (setting, cell, chosen, (), rests[cell])
        for setting in settings(doors_of(plan), rules)
        for cell in cells
        if cell_kind(plan, setting, cell) == "free"
        for chosen in choices
        if cell not in _mover_cells(movers, chosen)
    ])


def _mover_cells(movers, posts):
    """The cells of the movers that are at these posts."""
    return tuple([mover[1][post] for mover, post in zip(movers, posts)])


def outcomes(book, world, command):
    """The pair of 1 or 0, whether the step may be a touch, and all (reading, next world), ascending."""
    touch = 0
    found = []
    for struck in strikes(book[6], book[7], world[3]):
        touches, steps = _steps(book, world, command, struck)
        touch = max(touch, touches)
        for step in steps:
            found.extend(_shown(book, world, struck, step))
    return (touch, tuple(sorted(set(found))))


def _steps(book, world, command, struck):
    """With these struck faults, whether a step may be a touch, and the (cell, bumped, posts) of all others."""
    _, plan, _, _, pushes, movers, faults, _, _, _, _ = book
    setting, cell, posts, _, _ = world
    touch, ends = ends_of(plan, setting, pushes, faults, struck, cell, command)
    olds = _mover_cells(movers, posts)
    found = []
    for chosen in one_of_each([mover[2][post] for mover, post in zip(movers, posts)]):
        news = _mover_cells(movers, chosen)
        for way, bumped in ends:
            if any(meets(way, old, new) for old, new in zip(olds, news)):
                touch = 1
            else:
                found.append((way[-1], bumped, chosen))
    return (touch, sorted(set(found)))


def _shown(book, world, struck, step):
    """All pairs (reading, next world) behind a step that is no touch."""
    _, plan, _, sensors, _, movers, faults, _, _, _, _ = book
    cell, bumped, posts = step
    behind = (world[0], cell, posts, struck, rest(world[4], mark_of(plan, cell)))
    broken = broken_by(sensors, faults, struck)
    others = _mover_cells(movers, posts)
    return [
        (reading, behind)
        for reading in readings_at(plan, world[0], sensors, broken, cell, others, bumped)
    ]
