"""Plans of a floor: their texts, their doors, and their cells."""

from doubtborne.errors import BadPlan

MOST_LINES = 8
MOST_WIDTH = 8
MARKS = "abcdefgh"
GATES = "123456"
LIDS = "ABCDEF"
SIGNS = ".,+#*!abcdefgh123456ABCDEF"
SLICK = ","
CHARGER = "+"
FLOOR = ".,+abcdefgh"
FIXED_KINDS = {"#": "wall", "*": "glass", "!": "hole"}
# North, east, south, west, as moves over lines and columns.
MOVES = ((-1, 0), (0, 1), (1, 0), (0, -1))


def parse_plan(text):
    """The plan that has this text; raises BadPlan for the first bad place."""
    lines = tuple(text.split("\n"))
    check_lines(lines)
    return lines


def check_lines(lines):
    """Raises BadPlan for the first bad place of some lines."""
    for number in range(len(lines)):
        column = _bad_column(lines, number)
        if column is not None:
            raise BadPlan(number, column)


def _bad_column(lines, number):
    """The first bad column of the line with this number, or None."""
    if number == MOST_LINES:
        return 0
    if number == 0:
        return _misfit_column(lines[0], 1, MOST_WIDTH)
    width = len(lines[0])
    return _misfit_column(lines[number], width, width)


def _misfit_column(line, least, most):
    """The first bad column of a line that shall have from least to most signs, or None."""
    for column, sign in enumerate(line):
        if column == most or sign not in SIGNS:
            return column
    if len(line) < least:
        return len(line)
    return None


def plan_text(plan):
    """The text of the plan."""
    return "\n".join(plan)


def doors_of(plan):
    """The number of the plan's doors."""
    return max([_door_of(sign) for line in plan for sign in line])


def _door_of(sign):
    """The door of which the sign is a gate or a lid, or 0."""
    return max(GATES.find(sign), LIDS.find(sign)) + 1


def sign_at(plan, cell):
    """The character of the cell."""
    line, column = divmod(cell, len(plan[0]))
    return plan[line][column]


def cell_kind(plan, setting, cell):
    """The kind of the cell in the setting: "free", "wall", "glass" or "hole"."""
    sign = sign_at(plan, cell)
    door = _door_of(sign)
    if door == 0:
        return FIXED_KINDS.get(sign, "free")
    if setting[door - 1] == 1:
        return "free" if sign in GATES else "hole"
    return "wall" if sign in GATES else "free"


def is_floor(plan, cell):
    """Whether the cell is floor, whatever the doors are."""
    return sign_at(plan, cell) in FLOOR


def free_cells(plan, setting):
    """All cells that are free in the setting, ascending."""
    cells = range(len(plan) * len(plan[0]))
    return tuple([cell for cell in cells if cell_kind(plan, setting, cell) == "free"])


def mark_of(plan, cell):
    """The mark of the cell, 0 to 8."""
    return MARKS.find(sign_at(plan, cell)) + 1


def next_cell(plan, cell, direction):
    """The number of the next cell in the direction, or None outside of the plan."""
    width = len(plan[0])
    down, right = MOVES[direction]
    line = cell // width + down
    column = cell % width + right
    if 0 <= line < len(plan) and 0 <= column < width:
        return line * width + column
    return None
