import unittest

from doubtborne.errors import TooMany
from doubtborne.searching import search


def onward(last):
    """Each number up to the last one leads to the next one."""
    return lambda number: (number * number, [number + 1] if number < last else [])


class TestSearch(unittest.TestCase):

    def test_what_is_told(self):
        self.assertEqual(search([3], onward(6)), {3: 9, 4: 16, 5: 25, 6: 36})
        self.assertEqual(search([6], onward(6)), {6: 36})
        self.assertEqual(search([], onward(6)), {})

    def test_the_order_in_which_things_are_found(self):
        leads = {"a": "cb", "b": "ad", "c": "be", "d": "", "e": "a"}
        self.assertEqual(list(search(["a"], lambda thing: (None, list(leads[thing])))), ["a", "c", "b", "e", "d"])
        self.assertEqual(list(search(["b", "c"], lambda thing: (None, list(leads[thing])))), ["b", "c", "a", "d", "e"])

    def test_each_thing_is_looked_at_once(self):
        looked = []

        def look(number):
            looked.append(number)
            return (None, [0, 1, 2, number])

        search([2], look)
        self.assertEqual(looked, [2, 0, 1])

    def test_exactly_400_and_more(self):
        self.assertEqual(len(search([1], onward(400))), 400)
        self.assertEqual(len(search(list(range(400)), onward(0))), 400)
        for firsts, last in (([1], 401), (list(range(401)), 0), (list(range(400)), 400), ([0], 10 ** 9)):
            with self.assertRaises(TooMany) as caught:
                search(firsts, onward(last))
            self.assertEqual(caught.exception.limit, 400)


if __name__ == "__main__":
    unittest.main()
