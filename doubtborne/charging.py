"""Charge: tables in which each world has one."""

from doubtborne.errors import TooLarge
from doubtborne.tables import MOST_WORLDS, TOUCH


def charged(table, costs, room):
    """The charged table; raises TooLarge."""
    if len(table) * (room + 1) > MOST_WORLDS:
        raise TooLarge("worlds")
    return tuple([
        tuple([_paid(outcomes, charge - cost, room) for outcomes, cost in zip(row, prices)])
        for row, prices in zip(table, costs)
        for charge in range(room + 1)
    ])


def _paid(outcomes, left, room):
    """The outcomes of a command behind which so much charge is left; below 0 the robot is stranded."""
    if left < 0:
        return (TOUCH,)
    return tuple([
        pair if pair == TOUCH else (pair[0], pair[1] * (room + 1) + min(room, left))
        for pair in outcomes
    ])


def charged_goals(goals, room):
    """For each goal the set of its worlds with all charges."""
    return tuple([
        tuple([world * (room + 1) + charge for world in goal for charge in range(room + 1)])
        for goal in goals
    ])


def with_charge(belief, charge, room):
    """The set of the belief's worlds with this charge."""
    return tuple([world * (room + 1) + charge for world in belief])


def without_charge(belief, room):
    """The set of the worlds of a belief of the charged table, whatever their charges are."""
    return tuple(sorted(set([number // (room + 1) for number in belief])))


def lowest(belief, room):
    """The belief of a charged table that keeps of each world only the least charge."""
    least = {}
    for number in belief:
        least.setdefault(number // (room + 1), number)
    return tuple(sorted(least.values()))
