"""What all tests need: looking at the kind of an answer, and small things to try."""

import unittest
from itertools import chain, combinations, product

TOUCH = (-1, -1)

# The table of the document's examples: two worlds, two commands.
SMALL_TABLE = ((((0, 0), (0, 1)), ((0, 1),)), (((1, 1),), (TOUCH, (0, 0))))


def is_plain(answer):
    """Whether it is made of tuples, strings, integers and None alone."""
    if type(answer) is tuple:
        return all(is_plain(part) for part in answer)
    return answer is None or type(answer) in (int, str)


def subsets(items):
    """All subsets of some items, as ascending tuples."""
    items = sorted(items)
    return list(chain.from_iterable(combinations(items, size) for size in range(len(items) + 1)))


def every_setting(doors):
    """All settings, by the library."""
    return tuple(product((0, 1), repeat=doors))


def literal_tuples(doors):
    """All tuples of literals of different doors, in the order of these doors."""
    choices = product(*[((), (-door,), (door,)) for door in range(1, doors + 1)])
    return [tuple(chain.from_iterable(choice)) for choice in choices]


def literal_holds(literal, setting):
    """What the document says of a literal."""
    if literal > 0:
        return setting[literal - 1] == 1
    return setting[-literal - 1] == 0


def shorter_ones(literals):
    """All that one gets by leaving out some of the literals."""
    return [some for size in range(len(literals)) for some in combinations(literals, size)]


class AnswerCase(unittest.TestCase):
    """Tests that look at the kind of each answer, too."""

    def answers(self, expected, function, *arguments):
        """The answer is this one, made of plain values, and the same when asked again."""
        before = repr(arguments)
        answer = function(*arguments)
        self.assertEqual(answer, expected)
        self.assertTrue(is_plain(answer), answer)
        self.assertEqual(function(*arguments), answer)
        self.assertEqual(repr(arguments), before)

    def says(self, expected, function, *arguments):
        """The answer is this bool, and the same when asked again."""
        self.assertIs(function(*arguments), expected)
        self.assertIs(function(*arguments), expected)

    def ascends(self, answer):
        """The answer is in order and has nothing twice."""
        self.assertEqual(list(answer), sorted(set(answer)))

    def raises(self, kind, attributes, function, *arguments):
        """The call raises this error with these attributes, again when asked again."""
        for _ in range(2):
            with self.assertRaises(kind) as caught:
                function(*arguments)
            self.assertIs(type(caught.exception), kind)
            for name, value in attributes.items():
                self.assertEqual(getattr(caught.exception, name), value)
                self.assertTrue(is_plain(getattr(caught.exception, name)))
