"""Webs of beliefs, and within how many steps these are borne."""

from doubtborne.searching import search
from doubtborne.tables import beliefs_after, ended, may_touch


def web(table, goals, start):
    """The beliefs of the web, ascending; raises TooMany."""
    return tuple(sorted(web_moves(table, goals, start)))


def web_moves(table, goals, start):
    """For each belief of the web None if it is ended, otherwise its moves; raises TooMany.

    The moves of a belief are, for each command that may not touch, the pair of it and the beliefs after it.
    """
    return search([start], lambda belief: with_others(moves_from(table, goals, belief)))


def moves_from(table, goals, belief):
    """None if the belief is ended, otherwise its moves."""
    if ended(goals, belief):
        return None
    return [
        (command, beliefs_after(table, belief, command))
        for command in range(len(table[0]))
        if not may_touch(table, belief, command)
    ]


def with_others(moves):
    """What is told of a belief of a web, its moves or None, and the beliefs that are reached by them."""
    return (moves, [other for command, others in moves or [] for other in others])


def steps_of(table, goals, start):
    """The steps of the start, or None; raises TooMany."""
    return steps_in(web_moves(table, goals, start)).get(start)


def borne_within(table, goals, start, steps):
    """True if the start is borne within so many steps; raises TooMany."""
    least = steps_of(table, goals, start)
    return least is not None and least <= steps


def steps_in(moves):
    """For each belief of a web that is borne its steps."""
    return steps_from(moves, {})


def steps_from(moves, known):
    """The known steps of beliefs, and for each other one those that are worked out from them and the ended ones on."""
    ends = {belief: 0 for belief in moves if moves[belief] is None}
    for belief in known:
        ends[belief] = known[belief]
    return in_rounds(moves, ends, _has_move_into)


def _has_move_into(moves, known):
    """True if behind one of the moves all beliefs are known."""
    return any(all([other in known for other in others]) for command, others in moves)


def in_rounds(moves, known, is_due):
    """The known numbers of beliefs, and for each other one the number of the round in which it is due, if it ever is.

    Rounds count from 1. By its moves, and those with a number of a round ahead, is_due tells whether a belief is due.
    """
    numbers = {belief: known[belief] for belief in known}
    waiting = [belief for belief in moves if moves[belief] is not None and belief not in known]
    number = 0
    # Behind the greatest number there is a round, which may be the first one in which nothing is due.
    while number <= max(numbers.values(), default=0):
        number += 1
        ahead = {belief: True for belief in numbers if numbers[belief] < number}
        for belief in [one for one in waiting if is_due(moves[one], ahead)]:
            numbers[belief] = number
        waiting = [belief for belief in waiting if belief not in numbers]
    return numbers


def best_command(moves, steps, belief):
    """The least command behind which all beliefs have fewer steps than this one, which is borne and not ended."""
    most = steps[belief]
    for command, others in moves[belief]:
        if all([steps.get(other, most) < most for other in others]):
            return command
    return None
