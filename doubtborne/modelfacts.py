"""What is known in a belief of a model, and what its commands cost."""

from doubtborne.clauses import prime_clauses
from doubtborne.commands import COMMANDS
from doubtborne.plans import CHARGER, SLICK, sign_at


def map_known(model, belief):
    """The prime clauses of the settings of the belief's worlds, ascending."""
    settings = [model[1][number][0] for number in belief]
    return prime_clauses(len(settings[0]), sorted(set(settings)))


def cells_known(model, belief):
    """The set of the cells of the belief's worlds."""
    return tuple(sorted(set([model[1][number][1] for number in belief])))


def costs_of(book, model):
    """For each world what each command costs there."""
    return tuple([_costs_at(book[8], sign_at(book[1], world[1])) for world in model[1]])


def _costs_at(battery, sign):
    """What each command costs on floor with this sign."""
    _, _, wait, move, slick, gain = battery
    waited = wait - gain if sign == CHARGER else wait
    moved = slick if sign == SLICK else move
    return (waited,) + (moved,) * (COMMANDS - 1)
