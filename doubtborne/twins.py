"""When a fault is known: runs with a fault, and twins without one that show the same."""

from doubtborne.errors import IsKnown
from doubtborne.tables import NO_READING, is_command
from doubtborne.witnesses import judge_run


def known_within(table, flags, start):
    """The least number of steps within which the fault is known, or None."""
    behind = _faulty_pairs(table, flags, _origins(table, flags, start))
    layers, left = _peeled(behind)
    return layers if len(left) == 0 else None


def _origins(table, flags, start):
    """All pairs of a world and one without flag that two runs with one history may reach, in the order found.

    Each one is a key, with the pair ahead of it and the (command, reading) by which it was found; None for a pair of
    the start.
    """
    found = {(world, twin): None for world in start for twin in start if flags[twin] == 0}
    waiting = list(found)
    at = 0
    while at < len(waiting):
        for sign, behind in _steps_from(table, flags, waiting[at]):
            if behind not in found:
                found[behind] = (waiting[at], sign)
                waiting.append(behind)
        at += 1
    return found


def _steps_from(table, flags, pair):
    """All (command, reading), each with a pair to which it may lead; the twin stays without flag."""
    world, twin = pair
    found = []
    for command in range(len(table[0])):
        twins = {}
        for reading, behind in table[twin][command]:
            if reading != NO_READING and flags[behind] == 0:
                twins.setdefault(reading, []).append(behind)
        for reading, behind in table[world][command]:
            found.extend([((command, reading), (behind, other)) for other in twins.get(reading, [])])
    return found


def _faulty_pairs(table, flags, origins):
    """For each of the pairs whose world has a flag the pairs to which it leads, and all of these have one, too."""
    return {
        pair: sorted(set([other for sign, other in _steps_from(table, flags, pair)]))
        for pair in origins
        if flags[pair[0]] == 1
    }


def _peeled(behind):
    """How often one can take away all pairs that lead to none that is left, and a list of what is left at last."""
    ahead = {}
    for pair in behind:
        for other in behind[pair]:
            ahead.setdefault(other, []).append(pair)
    missing = {pair: len(behind[pair]) for pair in behind}
    layers = 0
    layer = [pair for pair in behind if missing[pair] == 0]
    while layer:
        layers += 1
        waiting = [one for pair in layer for one in ahead.get(pair, [])]
        layer = []
        for one in waiting:
            missing[one] -= 1
            if missing[one] == 0:
                layer.append(one)
    return (layers, [pair for pair in behind if missing[pair] > 0])


def find_ring(table, flags, start):
    """A twin ring; raises IsKnown."""
    origins = _origins(table, flags, start)
    behind = _faulty_pairs(table, flags, origins)
    _, left = _peeled(behind)
    if len(left) == 0:
        raise IsKnown()
    ring = _ring_in(behind, left)
    path = _path_to(origins, ring[0])
    pairs = path + ring[1:] + ring[:1]
    history = [_sign_between(table, flags, here, there) for here, there in zip(pairs, pairs[1:])]
    run = tuple([pair[0] for pair in pairs])
    return (tuple(history), run, tuple([pair[1] for pair in pairs]), len(path) - 1)


def _ring_in(behind, left):
    """Pairs of which each one leads to the next one, and the last one to the first one."""
    kept = {pair: True for pair in left}
    gone = {}
    pair = left[0]
    # Each pair that is left leads to one that is left, so some pair comes again.
    while pair not in gone:
        gone[pair] = len(gone)
        pair = [other for other in behind[pair] if other in kept][0]
    return list(gone)[gone[pair]:]


def _path_to(origins, pair):
    """Pairs from one of the start to this one, of which each one leads to the next one."""
    path = [pair]
    while origins[path[-1]] is not None:
        path.append(origins[path[-1]][0])
    return path[::-1]


def _sign_between(table, flags, here, there):
    """The first (command, reading) by which the one pair leads to the other one."""
    return [sign for sign, behind in _steps_from(table, flags, here) if behind == there][0]


def judge_ring(table, flags, start, ring):
    """Whether it is a twin ring."""
    history, run, twin, back = ring
    if not 0 <= back < len(history) or not all(is_command(table, command) for command, reading in history):
        return False
    if not judge_run(table, start, history, run) or not judge_run(table, start, history, twin):
        return False
    is_round = run[back] == run[-1] and twin[back] == twin[-1]
    return is_round and all(flags[world] == 1 for world in run[back:]) and all(flags[world] == 0 for world in twin)
