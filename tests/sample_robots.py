"""Books for robots to try, and what the document says of what a robot knows, as straight as it says it."""

from itertools import product

from tests.sample_books import EAST, book, keeps_rules, outcomes_by_definition, starts_by_definition

# A battery that takes nothing, so that a robot can wait for ever.
FREE = ("battery", 0, 0, 0, 0, 0)
TO_A = ("at", 1)
BUMP = ("bump",)


def free_book(**parts):
    """A book with a battery that takes nothing."""
    return book(**{"battery": FREE, "task": TO_A, **parts})


# A line to the mark; a gate that may be shut in the way of it; a gate between the robot and one of two marks.
LINE = free_book(plan=("...a",))
GATE = free_book(plan=(".1a",), sensors=(BUMP,))
TWO_WAYS = free_book(plan=("a1.2a",), cells=(2,), sensors=(BUMP,), rules=(("least", 1, (1, 2)),))
# The robot is on one of the two sides of the mark, and sees the glass beside it.
SIDES = free_book(plan=("*..a..*",), cells=(1, 2, 4, 5), sensors=(("range", EAST - 1, 4, 1),))
# Going costs one, and waiting on the charger gives two.
CHARGED = book(plan=("+...a",), task=TO_A, battery=("battery", 4, 1, 1, 1, 3), cells=(0,))
# A push may lead aside, onto slick floor, where going costs more; there is a charger on the way.
PUSHED = book(
    plan=("..a", "+,."), task=TO_A, battery=("battery", 5, 0, 1, 2, 2), cells=(0, 3),
    pushes=(((0,), (0, 1)), ((), (0,))), sensors=(BUMP, ("mark", ())))
# A mover goes to and fro across the way, with two steps at each end; a fault may break the sensor that sees it.
MOVER = ("mover", (1, 1, 4, 7, 7), ((1,), (2,), (3,), (4,), (0,)))
CROSSED = free_book(
    plan=("...", "..a", "..."), cells=(3,), movers=(MOVER,), posts=((0, 1, 2, 3, 4),), sensors=(("near", 1, 1),))
BROKEN = CROSSED[:6] + ((("dead", 0),), 1) + CROSSED[8:]
# A lid may be open; the robot has to look at it from the north, and can wait only on the charger.
LID = book(
    plan=("+.a", ".A."), task=("then", ("at", 1), ("within", 3, ("at", 1))), battery=("battery", 3, 1, 1, 1, 2),
    cells=(0, 1), sensors=(("range", 2, 1, 0),))
ROBOTS = (
    (LINE, 3, 0), (LINE, 2, 0), (GATE, 4, 0), (GATE, 1, 0), (TWO_WAYS, 3, 0), (TWO_WAYS, 6, 0), (SIDES, 2, 0),
    (SIDES, 4, 0), (CHARGED, 9, 0), (CHARGED, 4, 4), (PUSHED, 5, 3), (PUSHED, 9, 5), (CROSSED, 6, 0), (BROKEN, 5, 0),
    (LID, 9, 3))


def known_at_the_start(made, charge):
    """All pairs of a world and a charge at the beginning."""
    return {(world, charge) for world in starts_by_definition(made)}


def cost_by_definition(made, world, command):
    """What the command takes, or gives if it is negative."""
    _, _, wait, move, slick, gain = made[8]
    sign = "".join(made[1])[world[1]]
    if command == 0:
        return wait - gain if sign == "+" else wait
    return slick if sign == "," else move


def known_behind(made, known, command):
    """For each reading that may come all pairs of a world and a charge behind it; None stands for a touch."""
    found = {}
    for world, charge in known:
        cost = cost_by_definition(made, world, command)
        touch, pairs = outcomes_by_definition(made, world, command)
        if cost > charge or touch:
            found[None] = True
        for reading, behind in pairs if cost <= charge else ():
            found.setdefault(reading, set()).add((behind, min(made[8][1], charge - cost)))
    return found


def true_rules(made, world):
    """All rules with one literal, and some others, that are kept in the world."""
    doors = range(1, len(world[0]) + 1)
    rules = [("least", 1, (door * side,)) for door, side in product(doors, (1, -1))]
    rules += [("most", n, tuple(doors)) for n in (0, 1)]
    return [rule for rule in rules if keeps_rules((rule,), world[0])]
