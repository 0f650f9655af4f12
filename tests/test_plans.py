import unittest

from doubtborne.errors import BadPlan
from doubtborne.plans import cell_kind, doors_of, free_cells, mark_of, next_cell, parse_plan, plan_text
from tests.answers import AnswerCase

SIGNS = ".,+abcdefgh#*!123456ABCDEF"
WHOLE = (".,+abcde", "fgh#*!12", "3456ABCD", "EF......", "........", "........", "........", "........")


class TestTexts(AnswerCase):

    def test_ordinary(self):
        self.answers(("..#", "a1A"), parse_plan, "..#\na1A")
        self.answers("..#\na1A", plan_text, ("..#", "a1A"))

    def test_least_and_greatest(self):
        self.answers((".",), parse_plan, ".")
        self.answers(".", plan_text, (".",))
        self.answers(WHOLE, parse_plan, "\n".join(WHOLE))
        self.answers("\n".join(WHOLE), plan_text, WHOLE)
        self.answers(("." * 8,), parse_plan, "." * 8)
        self.answers((".",) * 8, parse_plan, "\n".join("." * 8))

    def test_exactly_the_signs_of_the_table_are_taken(self):
        for code in range(ord(" "), ord("~") + 1):
            sign = chr(code)
            if sign in SIGNS:
                self.answers((sign,), parse_plan, sign)
            elif sign != chr(37):
                self.bad(sign, 0, 0)
                self.bad(".\n" + sign, 1, 0)

    def bad(self, text, line, column):
        """The text's first bad place is this one."""
        self.raises(BadPlan, {"line": line, "column": column}, parse_plan, text)

    def test_first_line_empty(self):
        self.bad("", 0, 0)
        self.bad("\n", 0, 0)
        self.bad("\n...", 0, 0)

    def test_first_line_too_wide(self):
        self.bad("." * 9, 0, 8)
        self.bad("." * 400, 0, 8)
        self.bad("." * 8 + "x", 0, 8)

    def test_first_line_with_a_sign_of_no_cell(self):
        self.bad("..x.", 0, 2)
        self.bad("..x.y", 0, 2)
        self.bad("..x......", 0, 2)
        self.bad(".......i.", 0, 7)
        self.bad("." * 9 + "x", 0, 8)

    def test_later_line_too_short(self):
        self.bad("...\n..", 1, 2)
        self.bad("...\n", 1, 0)
        self.bad("...\n...\n\n...", 2, 0)

    def test_later_line_too_long(self):
        self.bad("...\n....", 1, 3)
        self.bad(".\n..........", 1, 1)
        self.bad("...\n...x", 1, 3)
        self.bad("........\n.........", 1, 8)

    def test_later_line_with_a_sign_of_no_cell(self):
        self.bad("...\n.0.", 1, 1)
        self.bad("...\n. ", 1, 1)
        self.bad("...\n.7..", 1, 1)
        self.bad("...\n...\nG..", 2, 0)

    def test_ninth_line(self):
        self.bad("\n".join("." * 9), 8, 0)
        self.bad("\n".join("." * 8) + "\n", 8, 0)
        self.bad("\n".join("." * 20), 8, 0)
        self.bad("\n".join(["..."] * 8 + ["x"]), 8, 0)

    def test_lines_come_ahead_of_columns(self):
        self.bad("...\n..x\nx..", 1, 2)
        self.bad("..x\n.", 0, 2)
        self.bad("...\n..\n....", 1, 2)
        self.bad("\n".join(["..."] * 7 + ["..", "..."]), 7, 2)
        self.bad(".........\nx", 0, 8)


class TestDoors(AnswerCase):

    def test_no_doors(self):
        self.answers(0, doors_of, (".",))
        self.answers(0, doors_of, (".,+#*!", "abcdef"))

    def test_the_greatest_door_counts(self):
        self.answers(3, doors_of, (".1", "3."))
        self.answers(5, doors_of, ("E.", "2."))
        self.answers(6, doors_of, ("..6",))
        self.answers(6, doors_of, ("F.A",))
        self.answers(6, doors_of, WHOLE)

    def test_each_gate_and_each_lid(self):
        for door in range(1, 7):
            self.answers(door, doors_of, ("123456"[door - 1],))
            self.answers(door, doors_of, ("ABCDEF"[door - 1],))


class TestCells(AnswerCase):

    def test_what_is_fixed(self):
        kinds = {"#": "wall", "*": "glass", "!": "hole"}
        for sign in ".,+abcdefgh#*!":
            self.answers(kinds.get(sign, "free"), cell_kind, (sign,), (), 0)

    def test_gates(self):
        self.answers("wall", cell_kind, (".1",), (0,), 1)
        self.answers("free", cell_kind, (".1",), (1,), 1)

    def test_lids(self):
        self.answers("free", cell_kind, (".A",), (0,), 1)
        self.answers("hole", cell_kind, (".A",), (1,), 1)

    def test_each_door_has_its_own_number_in_the_setting(self):
        plan = ("123456", "ABCDEF")
        for door in range(6):
            setting = tuple(int(other == door) for other in range(6))
            for other in range(6):
                gate, lid = ("free", "hole") if other == door else ("wall", "free")
                self.answers(gate, cell_kind, plan, setting, other)
                self.answers(lid, cell_kind, plan, setting, 6 + other)

    def test_numbers_of_cells(self):
        plan = ("..#", "*.!")
        kinds = ["free", "free", "wall", "glass", "free", "hole"]
        for cell, kind in enumerate(kinds):
            self.answers(kind, cell_kind, plan, (), cell)

    def test_free_cells(self):
        self.answers((0, 1, 2), free_cells, ("...",), ())
        self.answers((0, 4, 5), free_cells, (".#*!", ",a##"), ())
        self.answers((), free_cells, ("#*", "!#"), ())
        self.answers((0, 2), free_cells, (".1A",), (0,))
        self.answers((0, 1), free_cells, (".1A",), (1,))
        self.answers(tuple(range(64)), free_cells, ("." * 8,) * 8, ())

    def test_marks(self):
        for number, sign in enumerate("abcdefgh"):
            self.answers(number + 1, mark_of, ("." + sign,), 1)
        for sign in ".,+#*!123456ABCDEF":
            self.answers(0, mark_of, (sign,), 0)
        self.answers(3, mark_of, ("...", "..c"), 5)

    def test_next_cell(self):
        plan = ("...", "...", "...")
        for direction, cell in enumerate((1, 5, 7, 3)):
            self.answers(cell, next_cell, plan, 4, direction)

    def test_outside_of_the_plan(self):
        plan = ("...", "...")
        found = [[next_cell(plan, cell, direction) for direction in range(4)] for cell in range(6)]
        self.assertEqual(found, [
            [None, 1, 3, None], [None, 2, 4, 0], [None, None, 5, 1],
            [0, 4, None, None], [1, 5, None, 3], [2, None, None, 4],
        ])

    def test_one_cell_has_no_next_one(self):
        for direction in range(4):
            self.answers(None, next_cell, ("#",), 0, direction)

    def test_64_cells(self):
        self.answers("free", cell_kind, WHOLE, (0,) * 6, 63)
        self.answers(55, next_cell, WHOLE, 63, 0)
        self.answers(62, next_cell, WHOLE, 63, 3)
        self.answers(None, next_cell, WHOLE, 63, 1)
        self.answers(None, next_cell, WHOLE, 63, 2)

    def test_walls_have_next_cells_too(self):
        self.answers(1, next_cell, ("##",), 0, 1)


if __name__ == "__main__":
    unittest.main()
