"""Tables to try, and what the document says of their beliefs, as straight as it says it."""

from itertools import combinations
from random import Random

from tests.answers import SMALL_TABLE, TOUCH, subsets


def made_table(seed, worlds, commands, readings):
    """A table with such numbers of worlds, commands and readings; one seed gives one table."""
    dice = Random(seed)
    rows = []
    for _ in range(worlds):
        row = []
        for _ in range(commands):
            pairs = {(dice.randrange(readings), dice.randrange(worlds)) for _ in range(dice.randint(1, 3))}
            if dice.random() < 0.2:
                pairs = pairs | {TOUCH} if dice.random() < 0.8 else {TOUCH}
            row.append(tuple(sorted(pairs)))
        rows.append(tuple(row))
    return tuple(rows)


def made_goals(seed, worlds):
    """None, one or two goals of a table with so many worlds."""
    dice = Random(seed)
    choices = subsets(range(worlds))[1:]
    return tuple(sorted({dice.choice(choices) for _ in range(dice.randint(0, 2))}))


def beliefs_of(table):
    """All beliefs of the table."""
    return subsets(range(len(table)))[1:]


def ended_by_definition(goals, belief):
    """True if it lies inside one of the goals."""
    return any(set(belief) <= set(goal) for goal in goals)


def moves_of(table, belief):
    """For each command that may not touch the beliefs after it, by the readings that may come."""
    moves = {}
    for command in range(len(table[0])):
        pairs = [pair for world in belief for pair in table[world][command]]
        if TOUCH not in pairs:
            moves[command] = {
                reading: tuple(sorted({behind for shown, behind in pairs if shown == reading}))
                for reading in {shown for shown, _ in pairs}}
    return moves


def steps_by_definition(table, goals):
    """The steps of all beliefs that are borne, by going up from those that are ended."""
    steps = {belief: 0 for belief in beliefs_of(table) if ended_by_definition(goals, belief)}
    many = 0
    while True:
        many += 1
        more = [
            belief for belief in beliefs_of(table) if belief not in steps and any(
                all(other in steps for other in others.values()) for others in moves_of(table, belief).values())]
        if not more:
            return steps
        steps.update({belief: many for belief in more})


def safe_by_definition(table, goals):
    """All safe beliefs: the greatest set of which each one is ended or can stay in it."""
    found = set(beliefs_of(table))
    while True:
        kept = {
            belief for belief in found if ended_by_definition(goals, belief) or any(
                found >= set(others.values()) for others in moves_of(table, belief).values())}
        if kept == found:
            return found
        found = kept


def web_by_definition(table, goals, start):
    """The beliefs of the web, as a set."""
    found = {start}
    waiting = [start]
    while waiting:
        belief = waiting.pop()
        if not ended_by_definition(goals, belief):
            for others in moves_of(table, belief).values():
                waiting.extend(set(others.values()) - found)
                found.update(others.values())
    return found


def runs_by_definition(table, start, history):
    """All runs that fit the start and the history, one by one."""
    runs = [(world,) for world in start]
    for command, reading in history:
        runs = [
            run + (behind,) for run in runs for shown, behind in table[run[-1]][command]
            if shown == reading and shown != -1]
    return sorted(runs)


def line_table(worlds):
    """One command leads along a line of worlds, each one with a reading of its own, to the last one, which stays."""
    return tuple((((min(world, 399), min(world + 1, worlds - 1)),),) for world in range(worlds))


# Small tables with goals, of all sorts.
VARIED = [(SMALL_TABLE, ((1,),)), (SMALL_TABLE, ())] + [
    (made_table(seed, 1 + seed % 5, 1 + seed % 3, 1 + seed % 4), made_goals(seed, 1 + seed % 5)) for seed in range(60)]


def cycles_table(first, second, ahead):
    """Two cycles of worlds of these lengths, with as many worlds ahead of the second one, all with one reading.

    From the first worlds of both, (0, first), there are as many beliefs as the least common multiple tells.
    """
    table = []
    for begin, length in ((0, first), (first, second)):
        table += [(((0, begin + (number + 1) % length),),) for number in range(length)]
    for number in range(ahead):
        table.append((((0, first if number == 0 else first + second + number - 1),),))
    return tuple(table)


# Tables and starts with exactly 400 beliefs in the web without goals, with 401, and with more.
MOST_WEBS = ((line_table(400), (0,)), (cycles_table(16, 25, 0), (0, 16)))
TOO_LARGE_WEBS = ((cycles_table(16, 25, 1), (15, 41)), (cycles_table(20, 21, 0), (0, 20)))


def with_short_cut(table):
    """The table with one more command, by which each world leads to the last one at once."""
    last = len(table) - 1
    return tuple(row + (((0, last),),) for row in table)


def is_belief_by_definition(table, belief):
    """Whether it is a nonempty set of worlds of the table."""
    return bool(belief) and list(belief) == sorted(set(belief)) and set(belief) <= set(range(len(table)))


def inside_any(belief, others):
    """True if it lies inside one of the others."""
    return any(set(belief) <= set(other) for other in others)


def mutations(paper, spots):
    """Papers that differ a bit from this one, with these values in the places of numbers and beliefs."""
    found = [(), paper, paper[::-1], paper + paper[:1], paper[1:] + paper[:1]]
    for at, entry in enumerate(paper):
        found.append(paper[:at] + paper[at + 1:])
        for place, values in enumerate(spots):
            for value in values(entry[place]):
                changed = entry[:place] + (value,) + entry[place + 1:]
                found += [paper[:at] + (changed,) + paper[at + 1:], paper + (changed,)]
    return found


def other_beliefs(belief):
    """Beliefs in place of this one: without a world, with another one, in another order, twice, empty, wrong."""
    return [
        (), belief[1:], belief[:-1], belief + belief[-1:], belief[::-1], belief + (belief[-1] + 1,), (0,) + belief,
        (-1,) + belief, belief + (1000,), (belief[0] - 1,) + belief[1:]]


def chosen_table(worlds):
    """By the command 0 each of these worlds stays, with a reading for each pair of worlds of which it is one.

    So from all of these worlds each pair, and then each single world, is a belief; by the command 1 all lead to one
    more world, which stays.
    """
    readings = list(enumerate(combinations(range(worlds), 2)))
    table = [
        (tuple((reading, world) for reading, pair in readings if world in pair), ((0, worlds),))
        for world in range(worlds)]
    return tuple(table) + ((((0, worlds),), ((0, worlds),)),)


def made_model(table, start, goal=(), settings=None, readings=None):
    """What a model with this table looks like; without settings there is no door, and readings have one value."""
    if settings is None:
        settings = ((),) * len(table)
    if readings is None:
        last = max((shown for row in table for pairs in row for shown, _ in pairs), default=-1)
        readings = tuple((reading,) for reading in range(last + 1))
    worlds = tuple((setting, cell, (), (), ("done",)) for cell, setting in enumerate(settings))
    return ("model", worlds, readings, table, start, goal)


def least_borne(table, goals, start):
    """The steps of the start, or None, in a table with so many beliefs that only its web is looked at."""
    found = web_by_definition(table, goals, start)
    steps = {belief: 0 for belief in found if ended_by_definition(goals, belief)}
    while True:
        more = [
            belief for belief in found if belief not in steps and any(
                all(other in steps for other in others.values()) for others in moves_of(table, belief).values())]
        if not more:
            return steps.get(start)
        number = 1 + max(steps.values())
        steps.update({belief: number for belief in more})
