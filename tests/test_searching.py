import unittest

from doubtborne.errors import TooMany
from doubtborne.searching import first_ways, search


def onward(last):
    """Each number up to the last one leads to the next one."""
    return lambda number: (number * number, [number + 1] if number < last else [])


class TestSearch(unittest.TestCase):

    def test_what_is_told(self):
        self.assertEqual(search([3], onward(6)), {3: 9, 4: 16, 5: 25, 6: 36})
        self.assertEqual(search([6], onward(6)), {6: 36})
        self.assertEqual(search([], onward(6)), {})

    def test_the_order_in_which_things_are_found(self):
        leads = {"a": "cb", "b": "ad", "c": "be", "d": "", "e": "a"}
        self.assertEqual(list(search(["a"], lambda thing: (None, list(leads[thing])))), ["a", "c", "b", "e", "d"])
        self.assertEqual(list(search(["b", "c"], lambda thing: (None, list(leads[thing])))), ["b", "c", "a", "d", "e"])

    def test_each_thing_is_looked_at_once(self):
        looked = []

        def look(number):
            looked.append(number)
            return (None, [0, 1, 2, number])

        search([2], look)
        self.assertEqual(looked, [2, 0, 1])

    def test_exactly_400_and_more(self):
        self.assertEqual(len(search([1], onward(400))), 400)
        self.assertEqual(len(search(list(range(400)), onward(0))), 400)
        for firsts, last in (([1], 401), (list(range(401)), 0), (list(range(400)), 400), ([0], 10 ** 9)):
            with self.assertRaises(TooMany) as caught:
                search(firsts, onward(last))
            self.assertEqual(caught.exception.limit, 400)


class TestFirstWays(unittest.TestCase):

    def test_the_shortest_and_of_these_the_first(self):
        leads = {"a": [(0, "b"), (1, "c"), (3, "d")], "b": [(5, "e"), (6, "a")], "c": [(0, "e"), (1, "d")], "d": [],
                 "e": [(0, "f")], "f": [(0, "f"), (1, "d")]}
        found = first_ways("a", lambda thing: leads[thing])
        self.assertEqual(found, {"a": (), "b": (0,), "c": (1,), "d": (3,), "e": (0, 5), "f": (0, 5, 0)})
        self.assertEqual(list(found), ["a", "b", "c", "d", "e", "f"])
        self.assertEqual(first_ways("d", lambda thing: leads[thing]), {"d": ()})

    def test_exactly_400_and_more(self):
        def onward(last):
            return lambda number: [("on", number + 1)] if number < last else []

        self.assertEqual(first_ways(1, onward(400))[400], ("on",) * 399)
        with self.assertRaises(TooMany) as caught:
            first_ways(1, onward(401))
        self.assertEqual(caught.exception.limit, 400)


if __name__ == "__main__":
    unittest.main()
