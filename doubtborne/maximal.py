"""What can be borne at all: maximal and minimal beliefs of a small table."""

from doubtborne.errors import TooLarge
from doubtborne.safety import dangers_in
from doubtborne.sets import one_left_out, subsets_of
from doubtborne.webs import best_command, moves_from, steps_in

MOST_WORLDS = 10


def borne_table(table, goals):
    """The maximal beliefs that are borne within 0, 1, 2, .. steps, up to the depth; raises TooLarge."""
    steps = steps_in(_all_moves(table, goals))
    return tuple([_maximal_of_these(table, borne) for borne in _borne_in_turn(steps)])


def unborne_table(table, goals):
    """The minimal beliefs that are not borne within 0, 1, 2, .. steps, up to the depth; raises TooLarge."""
    steps = steps_in(_all_moves(table, goals))
    return tuple([_minimal_of_others(table, borne) for borne in _borne_in_turn(steps)])


def safe_table(table, goals):
    """The maximal safe beliefs, and the minimal ones that are not safe; raises TooLarge."""
    moves = _all_moves(table, goals)
    dangers = dangers_in(moves)
    safe_ones = {belief: True for belief in moves if belief not in dangers}
    return (_maximal_of_these(table, safe_ones), _minimal_of_others(table, safe_ones))


def whole_policy(table, goals):
    """A policy that is right for each borne belief within its steps; raises TooLarge."""
    moves = _all_moves(table, goals)
    steps = steps_in(moves)
    # A borne belief lies inside a maximal one of those within its steps, and this one has no fewer steps.
    return tuple([
        (belief, n, best_command(moves, steps, belief))
        for n, borne in enumerate(_borne_in_turn(steps))
        for belief in _maximal_of_these(table, borne)
        if steps[belief] == n > 0
    ])


def _all_beliefs(table):
    """All beliefs of the table, ascending."""
    return subsets_of(tuple(range(len(table))))[1:]


def _all_moves(table, goals):
    """For each belief of the table None if it is ended, otherwise its moves; raises TooLarge."""
    if len(table) > MOST_WORLDS:
        raise TooLarge("worlds")
    return {belief: moves_from(table, goals, belief) for belief in _all_beliefs(table)}


def _borne_in_turn(steps):
    """For 0, 1, 2, .. steps, up to the depth, the beliefs that are borne within so many, as keys of dicts."""
    # Steps have no gaps: a belief that is not ended needs one behind it with just one step less.
    depth = max(steps.values(), default=0)
    return [{belief: True for belief in steps if steps[belief] <= n} for n in range(depth + 1)]


def _maximal_of_these(table, known):
    """The maximal ones of the known beliefs, ascending; all that lies inside a known one is known, too."""
    # So a larger known belief would give one with just one more world.
    return tuple([
        belief for belief in sorted(known)
        if not any(more in known for more in _with_one_more(table, belief))
    ])


def _with_one_more(table, belief):
    """All that one gets by adding one more world of the table to a belief."""
    return [tuple(sorted(belief + (world,))) for world in range(len(table)) if world not in belief]


def _minimal_of_others(table, known):
    """The minimal ones of the beliefs that are not known, ascending; all that lies inside a known one is known, too."""
    return tuple([
        belief for belief in _all_beliefs(table)
        if belief not in known and all(less in known or len(less) == 0 for less in one_left_out(belief))
    ])
