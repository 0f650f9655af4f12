"""Refutations: that a start is not borne."""

from doubtborne.errors import IsBorne
from doubtborne.papers import cannot_avoid, holds_one, is_not_ended
from doubtborne.webs import steps_in, web_moves


def find_refutation(table, goals, start, m):
    """A refutation that is right for the start and m; raises TooMany, then IsBorne."""
    moves = web_moves(table, goals, start)
    steps = steps_in(moves)
    if start in steps and (m is None or steps[start] <= m):
        raise IsBorne()
    return refuted_in(moves, steps)


def refuted_in(moves, steps):
    """For all beliefs of a web that are not ended the entries of a refutation, by the steps of those that have some."""
    waiting = [belief for belief in sorted(moves) if moves[belief] is not None]
    return tuple([(belief, steps[belief] - 1 if belief in steps else None) for belief in waiting])


def judge_refutation(table, goals, start, m, refutation):
    """Whether the refutation is right for the start and m."""
    return are_refuted(table, goals, refutation) and holds_one(_reaching(greatest_of(refutation), m), [start])


def are_refuted(table, goals, entries):
    """Whether the entries have all that is asked of those of a refutation, whatever its start is."""
    if not all(_is_number(n) and is_not_ended(table, goals, belief) for belief, n in entries):
        return False
    greatest = greatest_of(entries)
    return all(_is_refuted(table, greatest, belief, n) for belief, n in entries)


def greatest_of(entries):
    """For each belief the greatest number of its entries, None if it is for ever."""
    greatest = {}
    for belief, n in entries:
        if belief not in greatest or reaches(n, greatest[belief]):
            greatest[belief] = n
    return greatest


def _is_number(n):
    """Whether it is a number of steps, or None for ever."""
    return n is None or n >= 0


def reaches(n, asked):
    """True if n steps, for ever if None, are at least as many as asked."""
    return n is None or (asked is not None and n >= asked)


def _reaching(greatest, asked):
    """The beliefs whose greatest numbers reach what is asked, as keys."""
    return {belief: True for belief in greatest if reaches(greatest[belief], asked)}


def _is_refuted(table, greatest, belief, n):
    """True if each command may touch, or leads to what is refuted for one step less."""
    if n == 0:
        return True
    return cannot_avoid(table, _reaching(greatest, None if n is None else n - 1), belief)
