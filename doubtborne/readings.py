"""Readings: what all sensors show together."""

from doubtborne.sensors import sensor_values
from doubtborne.sets import one_of_each


def readings_at(plan, setting, sensors, broken, cell, others, bumped):
    """All readings that may come, ascending; broken has None, "dead" or "wild" for each sensor."""
    return one_of_each(values_of_each(plan, setting, sensors, broken, cell, others, bumped))


def fits_at(plan, setting, sensors, broken, cell, others, bumped, reading):
    """True if the reading is one of those that may come."""
    shown = values_of_each(plan, setting, sensors, broken, cell, others, bumped)
    return all(value in values for value, values in zip(reading, shown))


def values_of_each(plan, setting, sensors, broken, cell, others, bumped):
    """For each sensor the set of the values that it may show."""
    return [
        sensor_values(plan, setting, sensor, how, cell, others, bumped)
        for sensor, how in zip(sensors, broken)
    ]
