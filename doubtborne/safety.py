"""Safety: going on for ever, or to an ended belief, without touching."""

from doubtborne.errors import IsSafe, NotSafe
from doubtborne.papers import cannot_avoid, holds_one, is_move, is_not_ended, leads_inside
from doubtborne.tables import beliefs_after
from doubtborne.webs import in_rounds, web_moves


def safe(table, goals, start):
    """True if the start is safe; raises TooMany."""
    return start not in dangers_in(web_moves(table, goals, start))


def dangers_in(moves):
    """For each belief of a web that is not safe the number of steps within which a touch cannot be ruled out."""
    return in_rounds(moves, {}, _has_no_clear_move)


def _has_no_clear_move(moves, dangers):
    """True if behind each of the moves there is a danger."""
    return not any(keeps_clear(others, dangers) for command, others in moves)


def keeps_clear(others, dangers):
    """True if none of the beliefs behind a move is a danger."""
    return not any(other in dangers for other in others)


def find_safe(table, goals, start):
    """A right safe paper for the start; raises TooMany, then NotSafe."""
    moves = web_moves(table, goals, start)
    dangers = dangers_in(moves)
    if start in dangers:
        raise NotSafe()
    waiting = [belief for belief in sorted(moves) if moves[belief] is not None and belief not in dangers]
    return tuple([(belief, safe_command(moves[belief], dangers)) for belief in waiting])


def safe_command(moves, dangers):
    """The first command behind which all beliefs are safe."""
    return [command for command, others in moves if keeps_clear(others, dangers)][0]


def find_danger(table, goals, start):
    """A right danger paper for the start; raises TooMany, then IsSafe."""
    dangers = dangers_in(web_moves(table, goals, start))
    if start not in dangers:
        raise IsSafe()
    return danger_entries(dangers)


def danger_entries(dangers):
    """The entries of a danger paper for all these beliefs."""
    return tuple([(belief, dangers[belief]) for belief in sorted(dangers)])


def judge_safe(table, goals, start, paper):
    """Whether the safe paper is right for the start."""
    if not all(is_move(table, belief, command) for belief, command in paper):
        return False
    known = {entry[0]: True for entry in paper}
    if not leads_inside(goals, known, start):
        return False
    return all(
        leads_inside(goals, known, other)
        for belief, command in paper
        for other in beliefs_after(table, belief, command)
    )


def judge_danger(table, goals, start, paper):
    """Whether the danger paper is right for the start."""
    return are_dangers(table, goals, paper) and holds_one({belief: True for belief, n in paper}, [start])


def are_dangers(table, goals, entries):
    """Whether the entries have all that is asked of those of a danger paper, whatever its start is."""
    if not all(n >= 1 and is_not_ended(table, goals, belief) for belief, n in entries):
        return False
    least = {}
    for belief, n in entries:
        least[belief] = min(n, least.get(belief, n))
    return all(_is_danger(table, least, belief, n) for belief, n in entries)


def _is_danger(table, least, belief, n):
    """True if each command may touch, or leads to a danger with a smaller number."""
    return cannot_avoid(table, {other: True for other in least if least[other] < n}, belief)
