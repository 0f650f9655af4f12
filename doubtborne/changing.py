"""Tables that change, and what stays as it is."""

from doubtborne.solving import triples_in
from doubtborne.webs import in_rounds, steps_from, steps_in, web_moves


def exposed(table, other, goals, start):
    """The exposed beliefs of the web of the first table, ascending; raises TooMany."""
    return _exposed_in(web_moves(table, goals, start), _changed_worlds(table, other))


def _changed_worlds(table, other):
    """The worlds whose rows in the two tables differ, as keys of a dict."""
    return {world: True for world in range(len(table)) if table[world] != other[world]}


def _exposed_in(moves, changed):
    """The beliefs of a web from which one comes to one that is not ended and has a changed world, ascending."""
    hit = {
        belief: 0 for belief in moves
        if moves[belief] is not None and any(world in changed for world in belief)
    }
    return tuple(sorted(in_rounds(moves, hit, _leads_to_one)))


def _leads_to_one(moves, known):
    """True if behind one of the moves there is a known belief."""
    return any(any([other in known for other in others]) for command, others in moves)


def changed_steps(table, other, goals, start):
    """The exposed beliefs whose steps differ, with those by the first and by the second table; raises TooMany."""
    moves = web_moves(table, goals, start)
    steps = steps_in(moves)
    found = _exposed_in(moves, _changed_worlds(table, other))
    news = steps_in(_joint_moves(other, goals, found))
    triples = [(belief, steps.get(belief), news.get(belief)) for belief in found]
    return tuple([triple for triple in triples if triple[1] != triple[2]])


def _joint_moves(table, goals, beliefs):
    """What is told of all beliefs of the webs of these beliefs; raises TooMany."""
    joint = {}
    for belief in beliefs:
        # The web of a belief inside another web lies inside this one, so it is not too large, either.
        if belief not in joint:
            for reached, moves in web_moves(table, goals, belief).items():
                joint[reached] = moves
    return joint


def updated(triples, table, other, goals, start):
    """The solved second table, in which what stays as it is has been taken over from the triples; raises TooMany."""
    moves = web_moves(table, goals, start)
    left = {belief: True for belief in _exposed_in(moves, _changed_worlds(table, other))}
    news = web_moves(other, goals, start)
    kept = {
        triple[0]: triple for triple in triples
        if triple[0] in news and triple[0] in moves and triple[0] not in left
    }
    others = {belief: news[belief] for belief in news if belief not in kept}
    steps = steps_from(others, {belief: kept[belief][1] for belief in kept if kept[belief][1] is not None})
    return tuple(sorted(list(kept.values()) + list(triples_in(others, steps))))
