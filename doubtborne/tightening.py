"""Tighter books, and carrying a policy to one."""

from doubtborne.doors import settings
from doubtborne.plans import doors_of
from doubtborne.sets import inside


def tighter(book, other):
    """True if the book is tighter than the other one."""
    _, plan, rules, sensors, pushes, movers, faults, most, battery, task, start = book
    _, plan2, rules2, sensors2, pushes2, movers2, faults2, most2, battery2, task2, start2 = other
    if (plan, faults, battery, task) != (plan2, faults2, battery2, task2):
        return False
    doors = doors_of(plan)
    return (
        inside(settings(doors, rules), settings(doors, rules2))
        and _each_tighter(sensors, sensors2, _is_tighter_sensor)
        and _each_tighter(pushes, pushes2, inside)
        and _each_tighter(movers, movers2, _is_tighter_mover)
        and most <= most2
        and inside(start[0], start2[0])
        and _each_tighter(start[1], start2[1], inside)
    )


def _each_tighter(things, others, is_tighter):
    """True if there are as many things as others, and each one is tighter than the other one with its number."""
    return len(things) == len(others) and all(is_tighter(thing, other) for thing, other in zip(things, others))


def _is_tighter_sensor(sensor, other):
    """True if the sensor is of the other one's sort, and shows at most what the other one may show."""
    if sensor[0] != other[0]:
        return False
    if sensor[0] == "range":
        return sensor[1:3] == other[1:3] and sensor[3] <= other[3]
    if sensor[0] == "mark":
        return inside(sensor[1], other[1])
    if sensor[0] == "near":
        return sensor[1] >= other[1] and sensor[2] <= other[2]
    return True


def _is_tighter_mover(mover, other):
    """True if the mover has the other one's cells, and goes only where the other one may go."""
    return mover[1] == other[1] and _each_tighter(mover[2], other[2], inside)


def carried(policy, model, second):
    """The policy of the model with the numbers that its worlds have in the model of a tighter book."""
    numbers = {world: number for number, world in enumerate(second[1])}
    anew = {number: numbers[world] for number, world in enumerate(model[1]) if world in numbers}
    entries = [
        (tuple([anew[world] for world in belief if world in anew]), n, command)
        for belief, n, command in policy
    ]
    return tuple([entry for entry in entries if len(entry[0]) > 0])
