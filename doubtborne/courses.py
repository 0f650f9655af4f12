"""Courses of a book, world by world."""

from doubtborne.commands import COMMANDS
from doubtborne.worlds import outcomes, start_worlds


def judge_course(book, course):
    """Whether it is a course of the book."""
    worlds, commands, readings = course
    if not len(worlds) - 1 == len(commands) == len(readings):
        return False
    if worlds[0] not in start_worlds(book):
        return False
    # A world is looked at only when it is known to be one of the book.
    for at, command in enumerate(commands):
        if not 0 <= command < COMMANDS:
            return False
        if (readings[at], worlds[at + 1]) not in outcomes(book, worlds[at], command)[1]:
            return False
    return True
