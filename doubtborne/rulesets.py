"""The smallest sets of rules that say enough."""

from itertools import combinations

from doubtborne.doors import keeps
from doubtborne.literals import all_settings, holds


def least_rules(doors, rules, literal):
    """The first smallest set of rules from which the literal follows, or None."""
    # It follows exactly if each setting in which it does not hold breaks one of the rules.
    against = [setting for setting in all_settings(doors) if not holds(literal, setting)]
    return _least_breaking(rules, against)


def least_clash(doors, rules):
    """The first smallest set of rules that no setting keeps, or None."""
    return _least_breaking(rules, all_settings(doors))


def _least_breaking(rules, cases):
    """The first smallest set of rules of which each of the cases breaks one, or None."""
    broken = [_broken_rules(rules, case) for case in cases]
    for size in range(len(rules) + 1):
        for numbers in combinations(range(len(rules)), size):
            if all(_shares(numbers, each) for each in broken):
                return numbers
    return None


def _broken_rules(rules, setting):
    """The numbers of the rules that the setting breaks."""
    return [number for number, rule in enumerate(rules) if not keeps(rule, setting)]


def _shares(first, second):
    """True if some number is a member of both."""
    return any(number in second for number in first)
