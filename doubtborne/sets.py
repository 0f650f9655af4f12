"""Sets of numbers: ascending tuples of them."""


def is_ascending(items):
    """Whether the items are in order and none stands twice."""
    return all([first < second for first, second in zip(items, items[1:])])


def is_some_of(members, many):
    """Whether they are a nonempty set of numbers from 0 on that are less than many."""
    return len(members) > 0 and is_ascending(members) and all(0 <= member < many for member in members)


def inside(first, second):
    """True if the set first lies inside the set second."""
    return len(first) <= len(second) and len(set(first) - set(second)) == 0


def inside_one(first, sets):
    """True if the set first lies inside one of the sets."""
    return any(inside(first, other) for other in sets)


def common(first, second):
    """The set of the common members of two sets."""
    return tuple(sorted(set(first) & set(second)))


def subsets_of(members):
    """All sets that lie inside a set, ascending."""
    found = [()]
    for member in members:
        found = found + [some + (member,) for some in found]
    return tuple(sorted(found))


def one_left_out(items):
    """All that one gets by leaving out one of the items of a tuple."""
    return [items[:at] + items[at + 1:] for at in range(len(items))]


def one_of_each(sets):
    """All tuples with one member of each of the sets, in their order, ascending."""
    found = [()]
    for members in sets:
        found = [chosen + (member,) for chosen in found for member in members]
    return tuple(found)


def maximal_of(sets):
    """The maximal ones of a tuple of sets, ascending."""
    kept = []
    # Behind the longer sets, a set can only lie inside one that is already kept.
    for one in sorted(sorted(set(sets)), key=len, reverse=True):
        if not inside_one(one, kept):
            kept.append(one)
    return tuple(sorted(kept))


def minimal_of(sets):
    """The minimal ones of a tuple of sets, ascending."""
    kept = []
    # Behind the shorter sets, a set can only contain one that is already kept.
    for one in sorted(sorted(set(sets)), key=len):
        if not any(inside(other, one) for other in kept):
            kept.append(one)
    return tuple(sorted(kept))
