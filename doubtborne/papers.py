"""What judges of papers about beliefs ask of an entry."""

from doubtborne.sets import inside, inside_one
from doubtborne.tables import beliefs_after, ended, is_belief, is_command, may_touch


def is_move(table, belief, command):
    """Whether they are a belief, and a command that may not touch from it."""
    return is_belief(table, belief) and is_command(table, command) and not may_touch(table, belief, command)


def is_not_ended(table, goals, belief):
    """Whether it is a belief that is not ended."""
    return is_belief(table, belief) and not ended(goals, belief)


def leads_inside(goals, known, belief):
    """True if the belief is ended, or lies inside one of the known ones, the keys of a dict."""
    # Most beliefs that are asked for are known themselves, so this is looked at first.
    return belief in known or ended(goals, belief) or inside_one(belief, known)


def holds_one(known, beliefs):
    """True if one of the known beliefs, the keys of a dict, lies inside one of the others."""
    if any(belief in known for belief in beliefs):
        return True
    return any(inside(one, belief) for belief in beliefs for one in known)


def cannot_avoid(table, known, belief):
    """True if each command may touch from the belief, or one of the known ones lies inside a belief after it."""
    return all(
        may_touch(table, belief, command) or holds_one(known, beliefs_after(table, belief, command))
        for command in range(len(table[0]))
    )
