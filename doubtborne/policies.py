"""Policies: that a start is borne."""

from doubtborne.errors import NotBorne
from doubtborne.papers import is_move, leads_inside
from doubtborne.sets import inside
from doubtborne.tables import beliefs_after
from doubtborne.webs import best_command, steps_in, web_moves


def find_policy(table, goals, start):
    """A policy that is right for the start within its steps; raises TooMany, then NotBorne."""
    moves = web_moves(table, goals, start)
    steps = steps_in(moves)
    if start not in steps:
        raise NotBorne()
    return tuple([
        (belief, steps[belief], best_command(moves, steps, belief))
        for belief in sorted(steps)
        if steps[belief] > 0
    ])


def judge_policy(table, goals, start, m, policy):
    """Whether the policy is right for the start within m steps."""
    if not all(n >= 1 and is_move(table, belief, command) for belief, n, command in policy):
        return False
    least = {}
    for belief, n, command in policy:
        least[belief] = min(n, least.get(belief, n))
    if not leads_inside(goals, _within(least, m), start):
        return False
    return all(_leads_on(table, goals, least, entry) for entry in policy)


def _within(least, n):
    """The beliefs that have a least number of at most n, as keys."""
    return {belief: True for belief in least if least[belief] <= n}


def _leads_on(table, goals, least, entry):
    """True if each belief after the entry's command is ended, or lies inside one with a smaller number."""
    belief, n, command = entry
    smaller = _within(least, n - 1)
    return all(leads_inside(goals, smaller, other) for other in beliefs_after(table, belief, command))


def command_of(policy, belief):
    """The command of the policy for a belief that is not ended, or None."""
    fitting = [entry for entry in policy if inside(belief, entry[0])]
    # Of several entries with the least number, min takes the first one.
    return min(fitting, key=lambda entry: entry[1])[2] if fitting else None
