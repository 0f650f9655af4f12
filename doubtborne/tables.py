"""Tables of outcomes, beliefs about their worlds, and goals."""

from doubtborne.sets import common, inside_one, is_ascending, is_some_of, maximal_of

TOUCH = (-1, -1)
# What the touch pair has in place of a reading.
NO_READING = -1
MOST_WORLDS = 400
MOST_COMMANDS = 6
GREATEST_READING = 399


def is_table(table):
    """Whether it is a table."""
    if not 1 <= len(table) <= MOST_WORLDS:
        return False
    commands = len(table[0])
    if not 1 <= commands <= MOST_COMMANDS:
        return False
    return all(_is_row(row, commands, len(table)) for row in table)


def _is_row(row, commands, worlds):
    """Whether it has right outcomes for so many commands, in a table of so many worlds."""
    return len(row) == commands and all(_is_outcomes(outcomes, worlds) for outcomes in row)


def _is_outcomes(outcomes, worlds):
    """Whether they are right outcomes in a table of so many worlds."""
    # The touch pair is less than every other right pair, so in ascending outcomes it comes first.
    return (
        len(outcomes) > 0
        and is_ascending(outcomes)
        and all(_is_pair(pair, worlds) for pair in outcomes)
    )


def _is_pair(pair, worlds):
    """Whether it is the touch pair, or a reading and one of so many worlds."""
    reading, world = pair
    return pair == TOUCH or (0 <= reading <= GREATEST_READING and 0 <= world < worlds)


def is_belief(table, belief):
    """Whether it is a belief of the table."""
    return is_some_of(belief, len(table))


def may_touch(table, belief, command):
    """True if the command may touch from the belief."""
    # In the outcomes of a table the touch pair comes first.
    return any(table[world][command][0] == TOUCH for world in belief)


def readings_after(table, belief, command):
    """The set of the readings that may come behind the command."""
    found = [pair[0] for world in belief for pair in table[world][command] if pair != TOUCH]
    return tuple(sorted(set(found)))


def after(table, belief, command, reading):
    """The belief after the command and the reading; the empty tuple if there is none."""
    outcomes = [pair for world in belief for pair in table[world][command] if pair[0] == reading]
    return tuple(sorted(set([pair[1] for pair in outcomes if pair != TOUCH])))


def beliefs_after(table, belief, command):
    """The beliefs after the command, one for each reading that may come, in the order of these readings."""
    found = {}
    for world in belief:
        for reading, behind in table[world][command]:
            if reading != NO_READING:
                found.setdefault(reading, []).append(behind)
    return tuple([tuple(sorted(set(found[reading]))) for reading in sorted(found)])


def worlds_behind(table, belief, command):
    """The set of all worlds to which the command may lead from the belief, whatever is read."""
    return tuple(sorted(set([pair[1] for world in belief for pair in table[world][command] if pair != TOUCH])))


def is_command(table, command):
    """Whether it is a command of the table."""
    return 0 <= command < len(table[0])


def ended(goals, belief):
    """True if the belief lies inside one of the goals."""
    return inside_one(belief, goals)


def both_goals(first, second):
    """Goals for which a belief is ended exactly if it is ended for both of these goals."""
    shared = [common(one, other) for one in first for other in second]
    return maximal_of(tuple([goal for goal in shared if len(goal) > 0]))
