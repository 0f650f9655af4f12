"""Goals and flags of a model."""


def task_goals(model):
    """The goals of the model's task."""
    goal = model[5]
    return (goal,) if len(goal) > 0 else ()


def door_goals(model, door):
    """The worlds in which the door is open, and those in which it is shut, ascending."""
    return _goals_by([world[0][door - 1] for world in model[1]])


def cell_goals(model):
    """The worlds of each cell that occurs, ascending."""
    return _goals_by([world[1] for world in model[1]])


def map_goals(model):
    """The worlds of each setting that occurs, ascending."""
    return _goals_by([world[0] for world in model[1]])


def _goals_by(signs):
    """For each sign the set of the numbers at which it stands, ascending."""
    found = {}
    for number, sign in enumerate(signs):
        found.setdefault(sign, []).append(number)
    return tuple(sorted([tuple(found[sign]) for sign in found]))


def flags(model, fault):
    """For each world 1 if the fault with this number has struck in it, otherwise 0."""
    return tuple([1 if fault in world[3] else 0 for world in model[1]])
