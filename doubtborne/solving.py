"""Solving a whole web."""

from doubtborne.webs import best_command, steps_in, web_moves


def solved(table, goals, start):
    """For all beliefs of the web (belief, steps, command), ascending; raises TooMany."""
    moves = web_moves(table, goals, start)
    return triples_in(moves, steps_in(moves))


def triples_in(moves, steps):
    """(belief, steps, command) for all beliefs of a web of which these ones have steps, ascending."""
    return tuple([(belief, steps.get(belief), _command_in(moves, steps, belief)) for belief in sorted(moves)])


def _command_in(moves, steps, belief):
    """The least command behind which all beliefs have fewer steps, None for a belief without steps or with 0."""
    return best_command(moves, steps, belief) if steps.get(belief, 0) > 0 else None
