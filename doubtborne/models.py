"""Models: all worlds of a book that can be reached, by their numbers."""

from doubtborne.commands import COMMANDS
from doubtborne.searching import search
from doubtborne.tables import TOUCH
from doubtborne.tasks import DONE
from doubtborne.worlds import outcomes, start_worlds


def model_of(book):
    """The model of the book; raises TooMany."""
    firsts = start_worlds(book)
    steps = search(firsts, lambda world: with_worlds(outcomes_of_each(book, world)))
    worlds, readings, table, start = numbered(firsts, steps)
    goal = tuple([number for number, world in enumerate(worlds) if world[4] == DONE])
    return ("model", worlds, readings, table, start, goal)


def outcomes_of_each(book, world):
    """The outcomes of the world for each command."""
    return [outcomes(book, world, command) for command in range(COMMANDS)]


def with_worlds(told):
    """Some outcomes, and all worlds in them."""
    return (told, [world for touch, pairs in told for reading, world in pairs])


def numbered(firsts, steps):
    """The worlds of which steps has some outcomes, the readings in these, and by their numbers a table and a start.

    Worlds and readings ascend; the start is the set of the firsts.
    """
    worlds = tuple(sorted(steps))
    readings = _readings_in(steps)
    numbers = {world: number for number, world in enumerate(worlds)}
    reading_numbers = {reading: number for number, reading in enumerate(readings)}
    table = tuple([
        tuple([_by_numbers(told, reading_numbers, numbers) for told in steps[world]])
        for world in worlds
    ])
    return (worlds, readings, table, tuple(sorted([numbers[world] for world in firsts])))


def _readings_in(steps):
    """All readings that occur in the outcomes of all worlds, ascending."""
    found = [pair[0] for world in steps for touch, pairs in steps[world] for pair in pairs]
    return tuple(sorted(set(found)))


def _by_numbers(told, reading_numbers, numbers):
    """The outcomes with numbers in place of readings and worlds, the touch pair ahead of them if it may be one."""
    touch, pairs = told
    found = tuple([(reading_numbers[reading], numbers[world]) for reading, world in pairs])
    return (TOUCH,) + found if touch == 1 else found
