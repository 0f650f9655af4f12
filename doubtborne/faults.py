"""Faults that strike, and the sensors that they break."""

from doubtborne.sets import inside, subsets_of


def strikes(faults, most, struck):
    """All sets that those struck can become at the beginning of a step, ascending."""
    every = subsets_of(tuple(range(len(faults))))
    return tuple([some for some in every if len(some) <= most and inside(struck, some)])


def broken_by(sensors, faults, struck):
    """For each sensor None, "dead" or "wild", as the faults tell that have struck."""
    present = [faults[number] for number in struck]
    return tuple([_broken(present, sensor) for sensor in range(len(sensors))])


def _broken(present, sensor):
    """How the sensor with this number is broken by the present faults, or None."""
    if ("wild", sensor) in present:
        return "wild"
    return "dead" if ("dead", sensor) in present else None
