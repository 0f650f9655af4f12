"""What all tests need: looking at the kind of an answer, and small things to try."""

import unittest
from itertools import chain, combinations, product

TOUCH = (-1, -1)

# The table of the document's examples: two worlds, two commands.
SMALL_TABLE = ((((0, 0), (0, 1)), ((0, 1),)), (((1, 1),), (TOUCH, (0, 0))))


def is_plain(answer):
    """Whether it is made of tuples, strings, integers and None alone."""
    if type(answer) is tuple:
        return all(is_plain(part) for part in answer)
    return answer is None or type(answer) in (int, str)


def subsets(items):
    """All subsets of some items, as ascending tuples."""
    items = sorted(items)
    return list(chain.from_iterable(combinations(items, size) for size in range(len(items) + 1)))


def every_setting(doors):
    """All settings, by the library."""
    return tuple(product((0, 1), repeat=doors))


def literal_tuples(doors):
    """All tuples of literals of different doors, in the order of these doors."""
    choices = product(*[((), (-door,), (door,)) for door in range(1, doors + 1)])
    return [tuple(chain.from_iterable(choice)) for choice in choices]


def literal_holds(literal, setting):
    """What the document says of a literal."""
    if literal > 0:
        return setting[literal - 1] == 1
    return setting[-literal - 1] == 0


def shorter_ones(literals):
    """All that one gets by leaving out some of the literals."""
    return [some for size in range(len(literals)) for some in combinations(literals, size)]


class AnswerCase(unittest.TestCase):
    """Tests that look at the kind of each answer, too."""

    def answers(self, expected, function, *arguments):
        """The answer is this one, made of plain values, and the same when asked again."""
        before = repr(arguments)
        answer = function(*arguments)
        self.assertEqual(answer, expected)
        self.assertTrue(is_plain(answer), answer)
        self.assertEqual(function(*arguments), answer)
        self.assertEqual(repr(arguments), before)

    def says(self, expected, function, *arguments):
        """The answer is this bool, and the same when asked again."""
        self.assertIs(function(*arguments), expected)
        self.assertIs(function(*arguments), expected)

    def ascends(self, answer):
        """The answer is in order and has nothing twice."""
        self.assertEqual(list(answer), sorted(set(answer)))

    def raises(self, kind, attributes, function, *arguments):
        """The call raises this error with these attributes, again when asked again."""
        for _ in range(2):
            with self.assertRaises(kind) as caught:
                function(*arguments)
            self.assertIs(type(caught.exception), kind)
            for name, value in attributes.items():
                self.assertEqual(getattr(caught.exception, name), value)
                self.assertTrue(is_plain(getattr(caught.exception, name)))


# One plan with every sort of cell, two doors among them, and all settings of these.
MIXED = ("a.,#.1", ".!..*A", "c,2.B+")
MIXED_SETTINGS = ((0, 0), (0, 1), (1, 0), (1, 1))

# Lines and columns to go for north, east, south, west.
COMPASS = ((-1, 0), (0, 1), (1, 0), (0, -1))


def sign_beside(plan, setting, cell, direction, steps=1):
    """The cell so many steps away in the direction, and its kind; a cell outside of the plan is a wall."""
    width = len(plan[0])
    line = cell // width + COMPASS[direction][0] * steps
    column = cell % width + COMPASS[direction][1] * steps
    if not (0 <= line < len(plan) and 0 <= column < width):
        return None, "wall"
    return line * width + column, kind_by_sign(plan[line][column], setting)


def kind_by_sign(sign, setting):
    """What the document says of a character, in a setting."""
    if sign in "#*!":
        return {"#": "wall", "*": "glass", "!": "hole"}[sign]
    if sign in "123456":
        return "free" if setting[int(sign) - 1] == 1 else "wall"
    if sign in "ABCDEF":
        return "hole" if setting["ABCDEF".index(sign)] == 1 else "free"
    return "free"


def free_by_sign(plan, setting):
    """All cells that are free in the setting, ascending."""
    return [cell for cell, sign in enumerate("".join(plan)) if kind_by_sign(sign, setting) == "free"]


def every_mover(cells):
    """All movers whose posts have these cells."""
    choices = subsets(range(len(cells)))[1:]
    return [("mover", cells, leads) for leads in product(choices, repeat=len(cells))]


def runs_of(mover, posts, steps):
    """All tuples of posts that a mover may go in so many steps, one by one."""
    runs = [(post,) for post in posts]
    for _ in range(steps):
        runs = [run + (new,) for run in runs for new in mover[2][run[-1]]]
    return runs
