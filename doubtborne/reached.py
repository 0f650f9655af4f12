"""What is reached over free cells, and the terms that tell when there is a passage."""

from doubtborne.literals import shortest_of, terms_with_cases
from doubtborne.plans import cell_kind, doors_of, next_cell


def distances(plan, setting, cell):
    """The distance of each cell of the plan from this cell, None for one that is not reached."""
    found = [None] * (len(plan) * len(plan[0]))
    ring = _free_ones(plan, setting, [cell])
    far = 0
    while ring:
        for reached in ring:
            found[reached] = far
        ring = [near for near in _free_around(plan, setting, ring) if found[near] is None]
        far += 1
    return tuple(found)


def _free_around(plan, setting, cells):
    """The free cells next to some cells, ascending."""
    around = [next_cell(plan, cell, direction) for cell in cells for direction in range(4)]
    return _free_ones(plan, setting, sorted(set([near for near in around if near is not None])))


def _free_ones(plan, setting, cells):
    """Those of the cells that are free in the setting."""
    return [cell for cell in cells if cell_kind(plan, setting, cell) == "free"]


def passage_terms(plan, cases, cell, aim):
    """All passage terms from the cell to the aim, ascending."""
    passable = {case: distances(plan, case, cell)[aim] is not None for case in cases}
    found = []
    for term, held in terms_with_cases(doors_of(plan), cases):
        if len(held) > 0 and all(passable[case] for case in held):
            found.append(term)
    # All terms between a found one and a longer found one are found, so leaving out one at a time is enough.
    return shortest_of(found)
