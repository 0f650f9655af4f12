"""Places that look alike to the sensors, and the sensors that part all places."""

from itertools import combinations

from doubtborne.errors import TooMany
from doubtborne.plans import free_cells
from doubtborne.readings import fits_at, values_of_each
from doubtborne.sets import common, minimal_of, subsets_of

MOST_PLACES = 60


def places_that_fit(plan, cases, sensors, reading):
    """All places that the reading fits, ascending."""
    return tuple([place for place in _places(plan, cases) if _fits(plan, place, sensors, reading)])


def _places(plan, cases):
    """A list of all pairs of one of the cases and a cell that is free in it, ascending."""
    # The cases are any settings: they can stand in any order, and one of them can stand twice.
    return [(case, cell) for case in sorted(set(cases)) for cell in free_cells(plan, case)]


def _fits(plan, place, sensors, reading):
    """True if the reading fits the place."""
    setting, cell = place
    return fits_at(plan, setting, sensors, (None,) * len(sensors), cell, (), 0, reading)


def alike_places(plan, cases, sensors):
    """All pairs of alike places, ascending; raises TooMany."""
    pairs = _pairs_with_parting(plan, cases, sensors)
    return tuple([(first, second) for first, second, parting in pairs if len(parting) == 0])


def parting_sensors(plan, cases, sensors):
    """The minimal sets of sensors that part the places, ascending; raises TooMany."""
    pairs = _pairs_with_parting(plan, cases, sensors)
    choices = [parting for first, second, parting in pairs if first[1] != second[1]]
    tried = subsets_of(tuple(range(len(sensors))))
    return minimal_of(tuple([some for some in tried if _has_one_of_each(some, choices)]))


def _has_one_of_each(some, choices):
    """True if some numbers have a member of each of the choices among them."""
    return all(len(common(some, choice)) > 0 for choice in choices)


def _pairs_with_parting(plan, cases, sensors):
    """All pairs of places, ascending, each with the set of the sensors that part it; raises TooMany."""
    places = _places(plan, cases)
    if len(places) > MOST_PLACES:
        raise TooMany(MOST_PLACES)
    shown = {place: _shown_at(plan, place, sensors) for place in places}
    return [
        (first, second, _parting(shown[first], shown[second]))
        for first, second in combinations(places, 2)
    ]


def _shown_at(plan, place, sensors):
    """For each sensor the set of the values that it may show at the place."""
    setting, cell = place
    return values_of_each(plan, setting, sensors, (None,) * len(sensors), cell, (), 0)


def _parting(shown, other):
    """The set of the sensors that can show no value at both of two places."""
    # Each sensor shows its value by itself, so one reading fits both places if each sensor has a common value.
    return tuple([number for number in range(len(shown)) if len(common(shown[number], other[number])) == 0])
