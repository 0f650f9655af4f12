"""Commands: the trails by which they may go, and where these lead."""

from doubtborne.plans import SLICK, free_cells, sign_at
from doubtborne.walking import walked

WAIT = 0
COMMANDS = 5


def trails_of(plan, pushes, faults, struck, cell, command):
    """The trails by which the command may go from the cell, ascending."""
    if command == WAIT:
        return ((),)
    dry, slick = pushes
    pushed = slick if sign_at(plan, cell) == SLICK else dry
    present = [faults[number] for number in struck]
    drifts = [fault[2] for fault in present if fault[:2] == ("drift", command)]
    return tuple(sorted(set(list(pushed) + drifts)))


def ends_of(plan, setting, pushes, faults, struck, cell, command):
    """The pair of 1 or 0, whether a trail touches, and all (way, bumped) of the other trails, ascending."""
    gone = _gone(plan, setting, pushes, faults, struck, cell, command)
    ends = [one[1:] for one in gone if one[0] == "end"]
    touch = 1 if any(one[0] == "touch" for one in gone) else 0
    return (touch, tuple(sorted(set(ends))))


def _gone(plan, setting, pushes, faults, struck, cell, command):
    """What walking each of the command's trails gives."""
    # The empty trail of wait has no turn that would look at its direction.
    direction = max(0, command - 1)
    trails = trails_of(plan, pushes, faults, struck, cell, command)
    return [walked(plan, setting, cell, direction, trail) for trail in trails]


def sweeps(plan, setting, pushes, faults, struck, cell, command):
    """The set of all cells that the command may sweep."""
    gone = _gone(plan, setting, pushes, faults, struck, cell, command)
    return tuple(sorted(set([swept for one in gone for swept in one[1]])))


def starts_of(plan, setting, pushes, faults, struck, cell, command):
    """The set of all free cells from which a trail of the command ends at the cell without touching."""
    found = []
    for start in free_cells(plan, setting):
        _, ends = ends_of(plan, setting, pushes, faults, struck, start, command)
        if any(way[-1] == cell for way, bumped in ends):
            found.append(start)
    return tuple(found)
