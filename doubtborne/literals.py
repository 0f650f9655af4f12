"""Literals, the settings of some doors, and the terms over them."""

from doubtborne.sets import one_left_out


def holds(literal, setting):
    """True if the literal holds in the setting."""
    return setting[abs(literal) - 1] == (1 if literal > 0 else 0)


def all_settings(doors):
    """All settings of so many doors, ascending."""
    found = [()]
    for _ in range(doors):
        found = [setting + (state,) for setting in found for state in (0, 1)]
    return tuple(found)


def terms_with_cases(doors, cases):
    """A list of all terms over the doors, each one paired with a list of the cases in which it holds."""
    found = [((), list(cases))]
    for door in range(1, doors + 1):
        found = [pair for term, held in found for pair in _longer_by(door, term, held)]
    return found


def _longer_by(door, term, held):
    """The term, the term with the door shut, and with the door open, each one with its cases."""
    return (
        (term, held),
        (term + (-door,), [case for case in held if holds(-door, case)]),
        (term + (door,), [case for case in held if holds(door, case)]),
    )


def shortest_of(found):
    """Those of some tuples of literals of which none with one literal left out is found, too; ascending."""
    known = {literals: True for literals in found}
    kept = []
    for literals in found:
        if not any(shorter in known for shorter in one_left_out(literals)):
            kept.append(literals)
    return tuple(sorted(kept))
