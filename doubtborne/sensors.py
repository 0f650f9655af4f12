"""Sensors, and the values that they may show."""

from doubtborne.plans import MARKS, cell_kind, mark_of, next_cell


def sensor_top(sensor):
    """The greatest value that the sensor can show."""
    if sensor[0] == "range":
        return sensor[2]
    return len(MARKS) if sensor[0] == "mark" else 1


def ahead(plan, setting, cell, direction):
    """How many cells in a row stand ahead of the cell, up to a wall, glass, or the end of the plan."""
    many = 0
    near = next_cell(plan, cell, direction)
    while near is not None and cell_kind(plan, setting, near) in ("free", "hole"):
        many += 1
        near = next_cell(plan, near, direction)
    return many


def sensor_values(plan, setting, sensor, broken, cell, others, bumped):
    """The set of the values that the sensor may show at the cell; broken is None, "dead" or "wild"."""
    if broken == "dead":
        return (0,)
    if broken == "wild":
        return tuple(range(sensor_top(sensor) + 1))
    if sensor[0] == "range":
        return _range_values(sensor, ahead(plan, setting, cell, sensor[1]))
    if sensor[0] == "mark":
        return _mark_values(sensor, mark_of(plan, cell))
    if sensor[0] == "bump":
        return (bumped,)
    return near_values(len(plan[0]), sensor, cell, others)


def _range_values(sensor, many):
    """What a range sensor may show if so many cells stand ahead."""
    far, error = sensor[2:]
    seen = min(far, many)
    return tuple(range(max(0, seen - error), min(far, seen + error) + 1))


def _mark_values(sensor, mark):
    """What a mark sensor may show at a cell with this mark."""
    taken_for = [value for seen, value in sensor[1] if seen == mark]
    return tuple(sorted([mark] + taken_for))


def near_values(width, sensor, cell, others):
    """What a near sensor may show at a cell of a plan of this width, with movers at the other cells."""
    _, inner, outer = sensor
    if len(others) == 0:
        return (0,)
    least = min([_apart(width, cell, other) for other in others])
    if least <= inner:
        return (1,)
    return (0,) if least > outer else (0, 1)


def _apart(width, first, second):
    """The distance of two cells: the sum of the differences of their lines and of their columns."""
    return abs(first // width - second // width) + abs(first % width - second % width)
