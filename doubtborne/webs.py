"""Webs of beliefs, and within how many steps these are borne."""

from doubtborne.searching import search
from doubtborne.tables import beliefs_after, ended, may_touch


def web(table, goals, start):
    """The beliefs of the web, ascending; raises TooMany."""
    return tuple(sorted(web_moves(table, goals, start)))


def web_moves(table, goals, start):
    """For each belief of the web None if it is ended, otherwise its moves; raises TooMany.

    The moves of a belief are, for each command that may not touch, the pair of it and the beliefs after it.
    """
    return search([start], lambda belief: _look(table, goals, belief))


def _look(table, goals, belief):
    """What is told of a belief of the web, and the beliefs that are reached from it."""
    if ended(goals, belief):
        return (None, [])
    moves = [
        (command, beliefs_after(table, belief, command))
        for command in range(len(table[0]))
        if not may_touch(table, belief, command)
    ]
    return (moves, [other for command, others in moves for other in others])


def steps_of(table, goals, start):
    """The steps of the start, or None; raises TooMany."""
    return steps_in(web_moves(table, goals, start)).get(start)


def steps_in(moves):
    """For each belief of a web that is borne its steps."""
    ends = {belief: 0 for belief in moves if moves[belief] is None}
    return in_rounds(moves, ends, _has_move_into)


def _has_move_into(moves, known):
    """True if behind one of the moves all beliefs are known."""
    return any(all([other in known for other in others]) for command, others in moves)


def in_rounds(moves, known, is_due):
    """The known numbers of beliefs, and for each other one the number of the round in which it is due, if it ever is.

    Rounds count from 1. By its moves, and the numbers of the rounds ahead, is_due tells whether a belief is due.
    """
    numbers = {belief: known[belief] for belief in known}
    waiting = [belief for belief in moves if moves[belief] is not None]
    number = 0
    due = waiting
    while due:
        number += 1
        due = [belief for belief in waiting if is_due(moves[belief], numbers)]
        for belief in due:
            numbers[belief] = number
        waiting = [belief for belief in waiting if belief not in numbers]
    return numbers


def best_command(moves, steps, belief):
    """The least command behind which all beliefs have fewer steps than this one, which is borne and not ended."""
    most = steps[belief]
    for command, others in moves[belief]:
        if all([steps.get(other, most) < most for other in others]):
            return command
    return None
