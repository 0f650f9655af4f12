"""Models: all worlds of a book that can be reached, by their numbers."""

from doubtborne.commands import COMMANDS
from doubtborne.searching import search
from doubtborne.tables import TOUCH
from doubtborne.tasks import DONE
from doubtborne.worlds import outcomes, start_worlds


def model_of(book):
    """The model of the book; raises TooMany."""
    firsts = start_worlds(book)
    steps = search(firsts, lambda world: _look(book, world))
    worlds = tuple(sorted(steps))
    readings = _readings_in(steps)
    numbers = {world: number for number, world in enumerate(worlds)}
    reading_numbers = {reading: number for number, reading in enumerate(readings)}
    table = tuple([
        tuple([_numbered(step, reading_numbers, numbers) for step in steps[world]])
        for world in worlds
    ])
    start = tuple(sorted([numbers[world] for world in firsts]))
    goal = tuple([number for number, world in enumerate(worlds) if world[4] == DONE])
    return ("model", worlds, readings, table, start, goal)


def _look(book, world):
    """The outcomes of the world for each command, and all worlds in them."""
    steps = [outcomes(book, world, command) for command in range(COMMANDS)]
    return (steps, [behind for touch, pairs in steps for reading, behind in pairs])


def _readings_in(steps):
    """All readings that occur in the outcomes of all worlds, ascending."""
    found = [pair[0] for world in steps for touch, pairs in steps[world] for pair in pairs]
    return tuple(sorted(set(found)))


def _numbered(step, reading_numbers, numbers):
    """The outcomes with numbers in place of readings and worlds, the touch pair ahead of them if it may be one."""
    touch, pairs = step
    found = tuple([(reading_numbers[reading], numbers[world]) for reading, world in pairs])
    return (TOUCH,) + found if touch == 1 else found
