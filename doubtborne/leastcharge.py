"""The least charge that is enough."""

from doubtborne.charging import charged, charged_goals, lowest, with_charge
from doubtborne.searching import search
from doubtborne.webs import moves_from, steps_in, with_others


def least_charge(table, goals, costs, room, start):
    """The least charge with which the start is borne, or None; raises TooLarge, then TooMany."""
    paid = charged(table, costs, room)
    aims = charged_goals(goals, room)
    for charge in range(room + 1):
        begin = with_charge(start, charge, room)
        if begin in steps_in(_low_web_moves(paid, aims, room, begin)):
            return charge
    return None


def _low_web_moves(table, goals, room, start):
    """For each belief of the low web of a lowest start None if it is ended, otherwise its moves; raises TooMany."""
    return search([start], lambda belief: with_others(_low_moves_from(table, goals, room, belief)))


def _low_moves_from(table, goals, room, belief):
    """None if the belief is ended, otherwise its moves to lowest beliefs."""
    moves = moves_from(table, goals, belief)
    if moves is None:
        return None
    return [(command, tuple([lowest(other, room) for other in others])) for command, others in moves]
