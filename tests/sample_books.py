"""Books to try, and what the document says of their worlds, as straight as it says it."""

from itertools import product

from doubtborne.commands import trails_of
from doubtborne.faults import broken_by, strikes
from doubtborne.readings import readings_at
from doubtborne.tasks import rest
from doubtborne.walking import walked
from tests.answers import every_setting, free_by_sign

WAIT, NORTH, EAST, SOUTH, WEST = range(5)
PLAIN = (((0,),), ((0,),))
BATTERY = ("battery", 5, 1, 1, 1, 1)
DONE = ("done",)


def standing(cell):
    """A mover that stays at its one cell."""
    return ("mover", (cell,), ((0,),))


def book(plan=("..",), rules=(), sensors=(), pushes=PLAIN, movers=(), faults=(), most=0, battery=BATTERY,
         task=DONE, cells=(0,), posts=None):
    """A book with these parts; without posts each mover begins at its post 0."""
    if posts is None:
        posts = ((0,),) * len(movers)
    return ("book", plan, rules, sensors, pushes, movers, faults, most, battery, task, (cells, posts))


def mark_at(plan, cell):
    """The mark of the cell."""
    sign = "".join(plan)[cell]
    return ord(sign) - ord("a") + 1 if sign in "abcdefgh" else 0


def keeps_rules(rules, setting):
    """What the document says of rules."""
    for word, n, literals in rules:
        many = sum(setting[abs(literal) - 1] == (literal > 0) for literal in literals)
        if (many < n) if word == "least" else (many > n):
            return False
    return True


def doors_in(plan):
    """The number of the plan's doors."""
    signs = "".join(plan)
    return max([0] + ["123456".index(sign) + 1 for sign in signs if sign in "123456"]
               + ["ABCDEF".index(sign) + 1 for sign in signs if sign in "ABCDEF"])


def starts_by_definition(made):
    """All start worlds, one by one."""
    _, plan, rules, _, _, movers, _, _, _, task, (cells, posts) = made
    found = []
    for setting in every_setting(doors_in(plan)):
        for cell, chosen in product(cells, list(product(*posts))):
            at = [mover[1][post] for mover, post in zip(movers, chosen)]
            if keeps_rules(rules, setting) and cell in free_by_sign(plan, setting) and cell not in at:
                found.append((setting, cell, chosen, (), rest(task, mark_at(plan, cell))))
    return tuple(sorted(found))


def steps_by_definition(made, world, command):
    """All that may happen in a step, one by one: None for a touch, else (reading, next world)."""
    _, plan, _, sensors, pushes, movers, faults, most, _, _, _ = made
    setting, cell, posts, struck, left = world
    direction = command - 1 if command else 0
    found = []
    for now in strikes(faults, most, struck):
        for trail in trails_of(plan, pushes, faults, now, cell, command):
            gone = walked(plan, setting, cell, direction, trail)
            for news in product(*[mover[2][post] for mover, post in zip(movers, posts)]):
                olds = [mover[1][post] for mover, post in zip(movers, posts)]
                others = tuple(mover[1][post] for mover, post in zip(movers, news))
                if gone[0] == "touch" or set(gone[1]) & set(olds + list(others)):
                    found.append(None)
                    continue
                end = gone[1][-1]
                behind = (setting, end, news, now, rest(left, mark_at(plan, end)))
                broken = broken_by(sensors, faults, now)
                for reading in readings_at(plan, setting, sensors, broken, end, others, gone[2]):
                    found.append((reading, behind))
    return found


def outcomes_by_definition(made, world, command):
    """The pair of what may touch and all other outcomes."""
    found = set(steps_by_definition(made, world, command))
    return (1 if None in found else 0, tuple(sorted(found - {None})))


def worlds_by_definition(made):
    """All worlds that can be reached, as a set."""
    found = set(starts_by_definition(made))
    waiting = list(found)
    while waiting:
        world = waiting.pop()
        for command in range(5):
            for _, behind in outcomes_by_definition(made, world, command)[1]:
                if behind not in found:
                    found.add(behind)
                    waiting.append(behind)
    return found


MOVER = ("mover", (1, 2, 5, 4), ((1,), (1, 2), (3,), (0, 2)))
# Books with all that a book can have; the smaller ones come first.
VARIED = (
    book(),
    book(plan=(".1.", ".A."), rules=(("least", 1, (1,)),), cells=(0, 3, 4), task=("at", 1)),
    book(plan=("a,2", "1b."), rules=(("most", 1, (1, 2)),), cells=(0, 1, 3, 4),
         sensors=(("range", 1, 2, 1), ("bump",)), pushes=(((0,),), ((), (0,), (0, 0))),
         task=("then", ("at", 1), ("within", 2, ("at", 2)))),
    book(plan=("..a", "+.*", "!,b"), cells=(0, 3, 4), movers=(MOVER,), posts=((0, 3),),
         sensors=(("near", 1, 2), ("mark", ((0, 1), (1, 3)))), pushes=(((0,), (0, 1)), ((), (0, 0))),
         faults=(("drift", EAST, (0, 0)), ("wild", 0)), most=1, task=("without", 1, ("at", 2))),
    book(plan=("B.2", "a1."), cells=(0, 1, 3), movers=(standing(2), ("mover", (5, 4), ((1,), (0, 1)))),
         posts=((0,), (0, 1)), sensors=(("range", 3, 1, 0), ("near", 0, 1), ("bump",)),
         faults=(("dead", 0), ("drift", WEST, ()), ("wild", 2)), most=2, task=("both", ("at", 1), ("within", 3, DONE))),
)


def chain_of_marks(last):
    """The task to go to the marks from 1 to the last one, in order."""
    task = ("at", 1)
    for mark in range(2, last + 1):
        task = ("then", task, ("at", mark))
    return task


# Books with exactly 400 worlds: 16 settings of 25 cells, and 7 rests of 58 cells less what the marks leave out.
MOST_BOOKS = (
    book(plan=(".....#1#", ".....###", ".....#2#", ".....###", ".....#3#", "########", "#4######")),
    book(plan=("abcdef..",) + ("........",) * 6 + ("..######",), task=chain_of_marks(6), cells=(7,)),
)
# And books with 401, 408 and 447 worlds, the last one with more than 400 start worlds, and with very many.
TOO_LARGE_BOOKS = (
    book(plan=("abcdef..",) + ("........",) * 2 + (".....1##",), task=chain_of_marks(6), cells=(7,)),
    book(plan=MOST_BOOKS[0][1], cells=(0, 6)),
    book(plan=("12345.", "######", "......", "......"), cells=(5, 12, 13, 14, 15, 16, 17, 18, 19, 20, 21, 22, 23)),
    book(plan=("........",) * 6 + ("..+,.abc", "123456.."), movers=(MOVER,), posts=((0, 1, 2, 3),),
         cells=tuple(range(64)), task=chain_of_marks(3)),
)
