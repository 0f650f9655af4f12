"""Looking at all that can be reached."""

from doubtborne.errors import TooMany

MOST_REACHED = 400


def search(firsts, look):
    """What is told of all that can be reached from the firsts, in the order found; raises TooMany.

    For a thing, look gives the pair of what is told of it and the things that are reached from it at once.
    Nearer things are found ahead of farther ones, and among these first those that are reached from earlier ones.
    """
    found = {}
    waiting = list(firsts)
    known = set(waiting)
    while len(found) < len(waiting):
        if len(waiting) > MOST_REACHED:
            raise TooMany(MOST_REACHED)
        thing = waiting[len(found)]
        told, reached = look(thing)
        found[thing] = told
        for other in reached:
            if other not in known:
                known.add(other)
                waiting.append(other)
    return found


def first_ways(first, steps_from):
    """For all that can be reached from the first thing the first one of the shortest tuples of signs to it.

    For a thing, steps_from gives the pairs (sign, thing) to which it leads at once, ascending by the signs. The
    shorter tuples come ahead of the longer ones, and those of one length ascend; raises TooMany.
    """
    found = search([first], lambda thing: _look(steps_from(thing)))
    ways = {first: ()}
    # Things are found in the order of their ways, so the first step that leads to a thing ends its way.
    for thing in found:
        for sign, other in found[thing]:
            if other not in ways:
                ways[other] = ways[thing] + (sign,)
    return ways


def _look(steps):
    """The steps, and the things to which they lead."""
    return (steps, [other for sign, other in steps])
