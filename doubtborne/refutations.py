"""Refutations: that a start is not borne."""

from doubtborne.errors import IsBorne
from doubtborne.papers import cannot_avoid, holds_one, is_not_ended
from doubtborne.webs import steps_in, web_moves


def find_refutation(table, goals, start, m):
    """A refutation that is right for the start and m; raises TooMany, then IsBorne."""
    moves = web_moves(table, goals, start)
    steps = steps_in(moves)
    if start in steps and (m is None or steps[start] <= m):
        raise IsBorne()
    waiting = [belief for belief in sorted(moves) if moves[belief] is not None]
    return tuple([(belief, steps[belief] - 1 if belief in steps else None) for belief in waiting])


def judge_refutation(table, goals, start, m, refutation):
    """Whether the refutation is right for the start and m."""
    if not all(_is_number(n) and is_not_ended(table, goals, belief) for belief, n in refutation):
        return False
    greatest = {}
    for belief, n in refutation:
        if belief not in greatest or _reaches(n, greatest[belief]):
            greatest[belief] = n
    if not holds_one(_reaching(greatest, m), [start]):
        return False
    return all(_is_refuted(table, greatest, belief, n) for belief, n in refutation)


def _is_number(n):
    """Whether it is a number of steps, or None for ever."""
    return n is None or n >= 0


def _reaches(n, asked):
    """True if n steps, for ever if None, are at least as many as asked."""
    return n is None or (asked is not None and n >= asked)


def _reaching(greatest, asked):
    """The beliefs whose greatest numbers reach what is asked, as keys."""
    return {belief: True for belief in greatest if _reaches(greatest[belief], asked)}


def _is_refuted(table, greatest, belief, n):
    """True if each command may touch, or leads to what is refuted for one step less."""
    if n == 0:
        return True
    return cannot_avoid(table, _reaching(greatest, None if n is None else n - 1), belief)
