"""A new wall in the plan of a book."""

from doubtborne.commands import COMMANDS
from doubtborne.errors import BadCell
from doubtborne.models import numbered, outcomes_of_each, with_worlds
from doubtborne.plans import is_floor
from doubtborne.searching import search
from doubtborne.worlds import start_worlds


def with_wall(book, cell):
    """The worlds with and without a wall at the cell, and a table for both; raises BadCell, then TooMany."""
    if not is_floor(book[1], cell):
        raise BadCell(cell)
    closed = book[:1] + (_closed_at(book[1], cell),) + book[2:]
    firsts = start_worlds(book)
    steps = search(firsts, lambda world: with_worlds(outcomes_of_each(book, world) + _behind(closed, cell, world)))
    worlds, readings, rows, start = numbered(firsts, steps)
    table = tuple([row[:COMMANDS] for row in rows])
    other = tuple([row[COMMANDS:] for row in rows])
    return ("walled", worlds, readings, table, other, start)


def _closed_at(plan, cell):
    """The plan with a wall at the cell."""
    line, column = divmod(cell, len(plan[0]))
    changed = plan[line][:column] + "#" + plan[line][column + 1:]
    return plan[:line] + (changed,) + plan[line + 1:]


def _behind(closed, cell, world):
    """The outcomes of the world for each command in the closed book; a robot inside the new wall just touches."""
    if world[1] == cell:
        return [(1, ())] * COMMANDS
    return outcomes_of_each(closed, world)
