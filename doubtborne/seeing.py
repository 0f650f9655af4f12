"""Which sensors are needed."""

from doubtborne.sets import minimal_of, subsets_of
from doubtborne.tables import NO_READING
from doubtborne.webs import borne_within


def seen_by(model, kept):
    """The model in which readings keep only the values of these sensors."""
    _, worlds, readings, table, start, goal = model
    seen = [tuple([reading[sensor] for sensor in kept]) for reading in readings]
    left = tuple(sorted(set(seen)))
    numbers = {reading: number for number, reading in enumerate(left)}
    anew = {number: numbers[reading] for number, reading in enumerate(seen)}
    anew[NO_READING] = NO_READING
    return ("model", worlds, left, tuple([_read_anew(row, anew) for row in table]), start, goal)


def _read_anew(row, anew):
    """The row of a table with the new numbers of its readings."""
    return tuple([tuple(sorted(set([(anew[reading], world) for reading, world in pairs]))) for pairs in row])


def sensor_sets(model, many, goals, steps):
    """The minimal sets of the sensors for which the start is borne within the steps, ascending; raises TooMany."""
    tried = subsets_of(tuple(range(many)))
    return minimal_of(tuple([some for some in tried if _is_enough(seen_by(model, some), goals, steps)]))


def _is_enough(model, goals, steps):
    """True if the start of the model is borne within the steps."""
    return borne_within(model[3], goals, model[4], steps)
