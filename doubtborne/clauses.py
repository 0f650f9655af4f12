"""Prime clauses: exactly what is known about the doors."""

from doubtborne.literals import all_settings, holds, shortest_of, terms_with_cases


def prime_clauses(doors, cases):
    """All prime clauses of the cases, ascending."""
    # A clause holds in all cases exactly if the term of its literals' negatives holds in none.
    never = [term for term, held in terms_with_cases(doors, cases) if len(held) == 0]
    # A clause that holds stays so with more literals, so it is enough to leave out one at a time.
    return shortest_of([_negative(term) for term in never])


def _negative(term):
    """The clause that holds exactly where the term does not."""
    return tuple([-literal for literal in term])


def kept_by(doors, clauses):
    """The settings in which all clauses hold, ascending."""
    return tuple([setting for setting in all_settings(doors) if _all_hold(clauses, setting)])


def _all_hold(clauses, setting):
    """True if all clauses hold in the setting."""
    return all(_clause_holds(clause, setting) for clause in clauses)


def _clause_holds(clause, setting):
    """True if one of the clause's literals holds in the setting."""
    return any(holds(literal, setting) for literal in clause)
