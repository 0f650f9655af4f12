"""Doors that may be open or shut, and the rules that are told about them."""

from doubtborne.errors import NoCase
from doubtborne.literals import all_settings, holds


def keeps(rule, setting):
    """True if the setting keeps the rule."""
    word, n, literals = rule
    many = len([literal for literal in literals if holds(literal, setting)])
    return many >= n if word == "least" else many <= n


def settings(doors, rules):
    """The cases of the rules over so many doors, ascending."""
    return tuple([setting for setting in all_settings(doors) if _keeps_all(rules, setting)])


def _keeps_all(rules, setting):
    """True if the setting keeps all rules."""
    return all(keeps(rule, setting) for rule in rules)


def sure_doors(doors, rules):
    """For each door 1 if it is open in all cases, 0 if shut in all, None otherwise; raises NoCase."""
    cases = settings(doors, rules)
    if len(cases) == 0:
        raise NoCase()
    return tuple([_state_in_all(cases, door) for door in range(1, doors + 1)])


def _state_in_all(cases, door):
    """What the door is in all cases, 1 or 0, or None."""
    states = [case[door - 1] for case in cases]
    return states[0] if min(states) == max(states) else None
