"""Meeting a mover, and waiting until it surely is not met."""

from doubtborne.movers import may_go, round_of


def meets(way, old, new):
    """True if a robot that goes the way meets a mover that goes from the cell old to the cell new."""
    return old in way or new in way


def _may_meet(mover, posts, way):
    """True if a robot that goes the way in one step may meet the mover, which begins at any of the posts."""
    _, cells, leads = mover
    return any(meets(way, cells[old], cells[new]) for old in posts for new in leads[old])


def first_meeting(mover, posts, cell):
    """The first step, from 1 on, in which a robot that stands at the cell may meet the mover, or None."""
    first, length = round_of(mover, posts)
    # Behind so many steps only sets of posts come that have been looked at.
    for step in range(1, first + length + 1):
        if _may_meet(mover, posts, (cell,)):
            return step
        posts = may_go(mover, posts)
    return None


def least_wait(mover, posts, way):
    """The least number of steps to wait and then go the way, surely without meeting the mover, or None."""
    first, length = round_of(mover, posts)
    for waited in range(first + length):
        if _surely_goes(mover, posts, way):
            return waited
        if _may_meet(mover, posts, way[:1]):
            return None
        posts = may_go(mover, posts)
    return None


def _surely_goes(mover, posts, way):
    """True if going the way, one cell a step, surely does not meet the mover."""
    for here, there in zip(way, way[1:]):
        if _may_meet(mover, posts, (here, there)):
            return False
        posts = may_go(mover, posts)
    return True
