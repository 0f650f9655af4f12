"""Walking a trail, turn by turn."""

from doubtborne.plans import cell_kind, next_cell


def walked(plan, setting, cell, direction, trail):
    """("end", way, bumped) or ("touch", way) for the trail, gone with this direction from a free cell."""
    way = (cell,)
    for turn in trail:
        near = next_cell(plan, way[-1], (direction + turn) % 4)
        kind = "wall" if near is None else cell_kind(plan, setting, near)
        if kind == "wall":
            return ("end", way, 1)
        way = way + (near,)
        if kind != "free":
            return ("touch", way)
    return ("end", way, 0)
