"""Verdicts: what can be hoped for in the time that is left."""

from doubtborne.errors import NotLost
from doubtborne.papers import holds_one
from doubtborne.refutations import are_refuted, greatest_of, reaches, refuted_in
from doubtborne.safety import are_dangers, danger_entries, dangers_in, keeps_clear
from doubtborne.searching import first_ways
from doubtborne.sets import inside
from doubtborne.tables import beliefs_after, is_belief, may_touch, readings_after
from doubtborne.webs import steps_in, web_moves

MOST_TIME = 60


def verdict_of(table, goals, belief, n):
    """The verdict for the belief if n steps are left; raises TooMany."""
    return weighed(table, outlook(table, goals, belief), belief, n)[0]


def hope(table, goals, belief, n):
    """The first one of the shortest hopes if the verdict is maybe, otherwise None; raises TooMany."""
    return weighed(table, outlook(table, goals, belief), belief, n)[1]


def outlook(table, goals, belief):
    """What verdicts need of a web: its moves, the steps of those that are borne, and its dangers; raises TooMany."""
    moves = web_moves(table, goals, belief)
    return (moves, steps_in(moves), dangers_in(moves))


def weighed(table, seen, belief, n):
    """The pair of the verdict for a belief of this outlook, and of its hope if it is maybe, otherwise None."""
    moves, steps, dangers = seen
    if moves[belief] is None:
        return ("ended", None)
    if steps.get(belief, n + 1) <= n:
        return ("sure", None)
    if belief in dangers:
        return ("danger", None)
    found = _shortest_hope(table, seen, belief, n)
    return ("lost", None) if found is None else ("maybe", found)


def _shortest_hope(table, seen, belief, n):
    """The first one of the shortest hopes of a belief that is not borne within n steps, or None."""
    moves, steps, dangers = seen
    ways = first_ways(belief, lambda one: _clear_steps(table, moves, dangers, one))
    # Steps are counted from the nearer beliefs on, so the first way to a belief leaves most time behind it.
    for reached in ways:
        if steps.get(reached, n + 1) + len(ways[reached]) <= n:
            return ways[reached]
    return None


def _clear_steps(table, moves, dangers, belief):
    """All (command, reading), ascending, each with the belief after it, for the commands behind which all is safe."""
    return [
        ((command, reading), other)
        for command, others in moves[belief] or []
        if keeps_clear(others, dangers)
        for reading, other in zip(readings_after(table, belief, command), others)
    ]


def find_loss(table, goals, belief, n):
    """A right loss paper; raises TooMany, then NotLost."""
    seen = outlook(table, goals, belief)
    if weighed(table, seen, belief, n)[0] not in ("lost", "danger"):
        raise NotLost()
    moves, steps, dangers = seen
    return (refuted_in(moves, steps), danger_entries(dangers), _losing_in(moves, dangers, belief, n))


def _losing_in(moves, dangers, belief, n):
    """The entries for all beliefs to which the clear moves may lead within n steps, from this belief on."""
    entries = []
    layer = [belief]
    for left in reversed(range(n + 1)):
        entries.extend([(one, left) for one in layer])
        layer = sorted(set([
            other for one in layer
            for command, others in moves[one]
            if keeps_clear(others, dangers)
            for other in others
        ]))
    return tuple(entries)


def judge_loss(table, goals, belief, n, paper):
    """Whether the loss paper is right for the belief and the time n."""
    refuted, dangers, losing = paper
    if not are_refuted(table, goals, refuted) or not are_dangers(table, goals, dangers):
        return False
    if not all(is_belief(table, one) and 0 <= k <= MOST_TIME for one, k in losing):
        return False
    known = {entry: True for entry in losing}
    if (belief, n) not in known:
        return False
    # Many entries have one belief, so what is asked of a belief is looked at once.
    beliefs = sorted(set([entry[0] for entry in losing]))
    greatest = greatest_of(refuted)
    most = {one: _most_refuted(greatest, one) for one in beliefs}
    perils = {entry[0]: True for entry in dangers}
    clear = {one: _clear_behind(table, perils, one) for one in beliefs}
    return all(
        reaches(most[one], k) and (k == 0 or _stays_losing(known, clear[one], k - 1))
        for one, k in known
    )


def _most_refuted(greatest, belief):
    """The greatest number of the refuted beliefs inside this one, None if it is for ever; -1 if there is none."""
    most = -1
    for one in greatest:
        if inside(one, belief) and reaches(greatest[one], most):
            most = greatest[one]
    return most


def _clear_behind(table, perils, belief):
    """For each command that may not touch, and behind which no belief contains a danger, the beliefs after it."""
    found = []
    for command in range(len(table[0])):
        others = beliefs_after(table, belief, command)
        if not may_touch(table, belief, command) and not holds_one(perils, others):
            found.append(others)
    return found


def _stays_losing(known, clear, left):
    """True if all these beliefs are known to be losing with the time that is left."""
    return all(all([(other, left) in known for other in others]) for others in clear)
