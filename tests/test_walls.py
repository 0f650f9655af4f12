import unittest

from doubtborne.errors import BadCell, TooMany
from doubtborne.models import model_of
from doubtborne.tables import is_belief, is_table
from doubtborne.walls import with_wall
from tests.answers import TOUCH, AnswerCase
from tests.sample_books import (
    DONE, EAST, MOST_BOOKS, PLAIN, TOO_LARGE_BOOKS, VARIED, book, outcomes_by_definition, starts_by_definition,
    worlds_by_definition)

LIMIT = {"limit": 400}


def closed(made, cell):
    """The walled book."""
    width = len(made[1][0])
    signs = "".join(made[1])
    signs = signs[:cell] + "#" + signs[cell + 1:]
    return made[:1] + (tuple(signs[at:at + width] for at in range(0, len(signs), width)),) + made[2:]


def walled_by_definition(made, cell):
    """What with_wall returns: point 61, word for word."""
    other = closed(made, cell)
    starts = starts_by_definition(made)
    worlds = set(starts)
    waiting = list(starts)
    steps = {}
    while waiting:
        world = waiting.pop()
        told = [outcomes_by_definition(made, world, command) for command in range(5)]
        if world[1] == cell:
            told += [(1, ())] * 5
        else:
            told += [outcomes_by_definition(other, world, command) for command in range(5)]
        steps[world] = told
        for _, pairs in told:
            for _, behind in pairs:
                if behind not in worlds:
                    worlds.add(behind)
                    waiting.append(behind)
    worlds = sorted(worlds)
    readings = sorted({reading for told in steps.values() for _, pairs in told for reading, _ in pairs})
    rows = [
        tuple(((TOUCH,) if touch else ()) + tuple(
            (readings.index(reading), worlds.index(behind)) for reading, behind in pairs)
            for touch, pairs in steps[world])
        for world in worlds]
    return (
        "walled", tuple(worlds), tuple(readings), tuple(row[:5] for row in rows), tuple(row[5:] for row in rows),
        tuple(worlds.index(world) for world in starts))


class TestWithWall(AnswerCase):

    def walls(self, made, cell):
        """What is told is right, and the first table is that of the book's model as far as this goes."""
        found = walled_by_definition(made, cell)
        self.answers(found, with_wall, made, cell)
        _, worlds, readings, table, other, start = found
        self.ascends(worlds)
        self.ascends(readings)
        self.ascends(start)
        for one in (table, other):
            self.says(True, is_table, one)
            self.says(True, is_belief, one, start)
        return found

    def test_each_sort_of_floor(self):
        for sign in ".,+abcdefgh":
            found = self.walls(book(plan=("." + sign,), sensors=(("bump",),)), 1)
            self.assertEqual([world[1] for world in found[1]], [0, 1])
            self.answers(found, with_wall, book(plan=("." + sign,), sensors=(("bump",),)), 1)

    def test_each_sort_of_cell_that_is_no_floor(self):
        for sign in "#*!123456ABCDEF":
            self.raises(BadCell, {"cell": 1}, with_wall, book(plan=("." + sign,)), 1)
            self.raises(BadCell, {"cell": 0}, with_wall, book(plan=(sign + ".",), cells=(1,)), 0)
        made = book(plan=("..", ".#", "*."))
        for cell in (3, 4):
            self.raises(BadCell, {"cell": cell}, with_wall, made, cell)
        for cell in (0, 1, 2, 5):
            self.walls(made, cell)

    def test_a_wall_in_the_way(self):
        _, worlds, readings, table, other, start = self.walls(book(plan=("..",)), 1)
        self.assertEqual(worlds, (((), 0, (), (), DONE), ((), 1, (), (), DONE)))
        self.assertEqual((readings, start), (((),), (0,)))
        stays = ((0, 0),)
        self.assertEqual(table[0], (stays, stays, ((0, 1),), stays, stays))
        self.assertEqual(other[0], (stays,) * 5)

    def test_worlds_whose_cell_is_the_new_wall(self):
        found = self.walls(book(plan=("..",)), 1)
        self.assertEqual(found[4][1], ((TOUCH,),) * 5)
        self.assertEqual(found[3][1], (((0, 1),),) * 4 + (((0, 0),),))
        for made in VARIED:
            cell = [one for one in made[10][0] if "".join(made[1])[one] in ".,+abcdefgh"][0]
            found = self.walls(made, cell)
            self.assertIn(cell, [world[1] for world in found[1]])
            for world, row in zip(found[1], found[4]):
                if world[1] == cell:
                    self.assertEqual(row, ((TOUCH,),) * 5)

    def test_a_wall_at_a_start_cell(self):
        # The start worlds are those of the book, also the one inside the new wall.
        found = self.walls(book(plan=("...",), cells=(0, 2)), 0)
        self.assertEqual([found[1][number][1] for number in found[5]], [0, 2])
        found = self.walls(book(plan=(".",)), 0)
        self.assertEqual(found[3:], (((((0, 0),),) * 5,), (((TOUCH,),) * 5,), (0,)))

    def test_a_cell_that_is_never_reached(self):
        for made, cell in ((book(plan=("..#.",)), 3), (book(plan=("..!a",), cells=(0, 1)), 3)):
            found = self.walls(made, cell)
            self.assertEqual(found[3], found[4])
            self.assertEqual(found[3], model_of(made)[3])
            self.assertEqual(found[1], model_of(made)[1])
            self.assertEqual(found[5], model_of(made)[4])

    def test_worlds_that_are_reached_only_by_the_walled_book(self):
        # Two steps go over the mark; a wall behind it stops the robot there.
        made = book(plan=(".a.",), pushes=(((0, 0),), ((0,),)), task=("then", ("at", 1), ("at", 2)), cells=(0,))
        found = self.walls(made, 2)
        self.assertGreater(len(found[1]), len(model_of(made)[1]))
        self.assertLess(set(model_of(made)[1]), set(found[1]))

    def test_worlds_that_are_reached_by_the_book_and_then_by_the_walled_one(self):
        # The wall is behind the robot when it goes on.
        found = self.walls(book(plan=("..1",), cells=(0,), rules=(("least", 1, (1,)),)), 0)
        self.assertEqual([world[1] for world in found[1]], [0, 1, 2])

    def test_readings_that_come_only_by_the_walled_book(self):
        made = book(plan=("....",), sensors=(("range", EAST - 1, 4, 0),), cells=(0,))
        found = self.walls(made, 2)
        self.assertEqual(found[2], ((0,), (1,), (2,), (3,)))
        made = book(plan=("....",), sensors=(("range", 0, 1, 0), ("bump",)), pushes=(((),), PLAIN[1]), cells=(0,))
        self.assertEqual(self.walls(made, 1)[2], ((0, 0),))
        made = book(
            plan=("...", "..."), sensors=(("bump",), ("range", 1, 2, 0)), pushes=(((0, 0),), ((0,),)), cells=(0,))
        self.assertLess(set(model_of(made)[2]), set(self.walls(made, 5)[2]))

    def test_by_the_definition(self):
        for made in VARIED:
            signs = "".join(made[1])
            for cell, sign in enumerate(signs):
                if sign in ".,+abcdefgh":
                    self.walls(made, cell)
                else:
                    self.raises(BadCell, {"cell": cell}, with_wall, made, cell)


class TestLimit(AnswerCase):

    def test_exactly_400_and_more(self):
        # A wall at a cell that is not reached changes nothing.
        made = MOST_BOOKS[0]
        plan = made[1][:6] + ("#4####..",)
        made = made[:1] + (plan,) + made[2:]
        self.assertEqual(len(worlds_by_definition(made)), 400)
        found = with_wall(made, 54)
        self.assertEqual(len(found[1]), 400)
        self.assertEqual(found[3], found[4])
        self.assertEqual(found, with_wall(made, 55))
        for made in TOO_LARGE_BOOKS:
            signs = "".join(made[1])
            for cell in (signs.find("."), signs.rfind(".")):
                self.raises(TooMany, LIMIT, with_wall, made, cell)

    def test_too_many_with_the_wall_alone(self):
        # The robot goes two cells at a time, so it comes to every second one, but a wall stops it between.
        for number, is_large in ((8, False), (14, True)):
            made = book(
                plan=(".......",) * 7, pushes=(((0, 0),), ((0,),)), cells=(0,), task=("within", number, ("at", 8)))
            self.assertLessEqual(len(worlds_by_definition(made)), 400)
            if is_large:
                self.raises(TooMany, LIMIT, with_wall, made, 16)
            else:
                self.assertLessEqual(len(with_wall(made, 16)[1]), 400)

    def test_bad_cell_ahead_of_too_many(self):
        made = TOO_LARGE_BOOKS[2]
        self.raises(BadCell, {"cell": 0}, with_wall, made, 0)
        self.raises(BadCell, {"cell": 6}, with_wall, made, 6)
        self.raises(TooMany, LIMIT, with_wall, made, 5)


if __name__ == "__main__":
    unittest.main()
