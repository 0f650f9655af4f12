"""Tracking a mover by what a near sensor shows."""

from doubtborne.errors import Misfit
from doubtborne.movers import may_go
from doubtborne.sensors import near_values
from doubtborne.sets import common


def tracked(width, mover, posts, sensor, cells, values):
    """The sets of posts where the mover may be behind the first 0, 1, 2, .. values; raises Misfit."""
    found = [posts]
    for at, value in enumerate(values):
        showing = _posts_that_show(width, mover, sensor, cells[at], value)
        found.append(common(may_go(mover, found[-1]), showing))
        if len(found[-1]) == 0:
            raise Misfit(at)
    return tuple(found)


def _posts_that_show(width, mover, sensor, cell, value):
    """The set of the mover's posts for which the sensor may show the value at the robot's cell."""
    shown = [near_values(width, sensor, cell, (other,)) for other in mover[1]]
    return tuple([post for post, values in enumerate(shown) if value in values])


def track(width, mover, posts, sensor, cells, values, post):
    """The first tuple of posts that fits all values and ends at the post, or None."""
    firsts = {begin: (begin,) for begin in posts}
    for cell, value in zip(cells, values):
        showing = _posts_that_show(width, mover, sensor, cell, value)
        firsts = _one_longer(mover, firsts, showing)
    return firsts.get(post)


def _one_longer(mover, firsts, showing):
    """The first tuples to each of the posts that show, from the first tuples to each post a step ahead."""
    leads = mover[2]
    longer = [told + (new,) for old, told in firsts.items() for new in leads[old] if new in showing]
    found = {}
    # All are of one length, so the first one to a post goes on from the first one to the post ahead of it.
    for told in sorted(longer):
        if told[-1] not in found:
            found[told[-1]] = told
    return found
