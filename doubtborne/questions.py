"""Questions about a start, and whether they are surely answered."""

from itertools import combinations

from doubtborne.errors import TooLarge
from doubtborne.searching import search
from doubtborne.tables import NO_READING, TOUCH, worlds_behind
from doubtborne.webs import steps_of

MOST_WORLDS = 12


def asked(table, start, answers):
    """The pairs of answers and worlds that can be reached, with their table, start and goals; raises TooMany."""
    firsts = list(zip(answers, start))
    pairs = tuple(sorted(search(firsts, lambda pair: (None, _pairs_behind(table, pair)))))
    numbers = {pair: number for number, pair in enumerate(pairs)}
    rows = tuple([_row_of(table, numbers, pair) for pair in pairs])
    begin = tuple(sorted([numbers[pair] for pair in firsts]))
    return ("asked", pairs, rows, begin, _goals_by_answer(pairs))


def _pairs_behind(table, pair):
    """The pairs of the same answer to which a pair of an answer and a world leads."""
    answer, world = pair
    return [
        (answer, behind)
        for command in range(len(table[0]))
        for behind in worlds_behind(table, (world,), command)
    ]


def _row_of(table, numbers, pair):
    """The row of the pair's world, with the numbers of the pairs behind it in place of the worlds."""
    answer, world = pair
    return tuple([
        tuple([TOUCH if shown == NO_READING else (shown, numbers[(answer, behind)]) for shown, behind in outcomes])
        for outcomes in table[world]
    ])


def _goals_by_answer(pairs):
    """For each answer, ascending, the set of the numbers of its pairs."""
    found = {}
    for number, (answer, _) in enumerate(pairs):
        found.setdefault(answer, []).append(number)
    return tuple([tuple(found[answer]) for answer in sorted(found)])


def answered_within(table, start, answers):
    """The least number of steps within which the question is surely answered, or None; raises TooMany."""
    _, _, rows, begin, goals = asked(table, start, answers)
    return steps_of(rows, goals, begin)


def unknowable_pairs(table):
    """All pairs of worlds of which it is not surely answered which one it was, ascending; raises TooLarge, TooMany."""
    if len(table) > MOST_WORLDS:
        raise TooLarge("worlds")
    return tuple([
        pair for pair in combinations(range(len(table)), 2)
        if answered_within(table, pair, (0, 1)) is None
    ])
