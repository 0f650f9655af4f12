"""Looking at all that can be reached."""

from doubtborne.errors import TooMany

MOST_REACHED = 400


def search(firsts, look):
    """What is told of all that can be reached from the firsts, in the order found; raises TooMany.

    For a thing, look gives the pair of what is told of it and the things that are reached from it at once.
    Nearer things are found ahead of farther ones, and among these first those that are reached from earlier ones.
    """
    found = {}
    waiting = list(firsts)
    known = set(waiting)
    while len(found) < len(waiting):
        if len(waiting) > MOST_REACHED:
            raise TooMany(MOST_REACHED)
        thing = waiting[len(found)]
        told, reached = look(thing)
        found[thing] = told
        for other in reached:
            if other not in known:
                known.add(other)
                waiting.append(other)
    return found
