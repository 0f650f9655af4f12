"""The errors of the program: each one stands directly under DoubtError."""


class DoubtError(ValueError):
    """The base class of all errors of the program; it is not raised itself."""


class BadPlan(DoubtError):
    """A plan whose first bad place is this column of this line."""

    def __init__(self, line, column):
        self.line = line
        self.column = column


class BadRule(DoubtError):
    """A book whose first bad rule has this number."""

    def __init__(self, number):
        self.number = number


class BadSensor(DoubtError):
    """A book whose first bad sensor has this number."""

    def __init__(self, number):
        self.number = number


class BadPush(DoubtError):
    """A book whose first bad trail has this number; which is 0 for dry, 1 for slick."""

    def __init__(self, which, number):
        self.which = which
        self.number = number


class BadMover(DoubtError):
    """A book whose first bad mover has this number."""

    def __init__(self, number):
        self.number = number


class BadFault(DoubtError):
    """A book whose first bad fault has this number."""

    def __init__(self, number):
        self.number = number


class BadNumber(DoubtError):
    """A book in which the number of this name is out of its bounds."""

    def __init__(self, name):
        self.name = name


class BadTask(DoubtError):
    """A task whose first bad token or node has this number."""

    def __init__(self, at):
        self.at = at


class BadStart(DoubtError):
    """A book whose start is bad; the number tells in which part."""

    def __init__(self, number):
        self.number = number


class BadCell(DoubtError):
    """A cell that is not floor."""

    def __init__(self, cell):
        self.cell = cell


class TooLarge(DoubtError):
    """This part is larger than the document allows."""

    def __init__(self, part):
        self.part = part


class TooMany(DoubtError):
    """There are more than this limit."""

    def __init__(self, limit):
        self.limit = limit


class NoWorld(DoubtError):
    """A book has no start world."""


class NoCase(DoubtError):
    """No setting keeps the rules."""


class Misfit(DoubtError):
    """What was told fits nothing any more, first at this number."""

    def __init__(self, at):
        self.at = at


class NotAlike(DoubtError):
    """Two tasks are not alike."""


class NotBorne(DoubtError):
    """A start is not borne within any number of steps."""


class IsBorne(DoubtError):
    """A start is borne, so no refutation is right for it."""


class NotSafe(DoubtError):
    """A start is not safe."""


class IsSafe(DoubtError):
    """A start is safe, so no danger paper is right for it."""


class IsNoticed(DoubtError):
    """Some trace tells two beliefs apart."""


class IsKnown(DoubtError):
    """A fault is known within some number of steps, so there is no twin ring."""


class NotLost(DoubtError):
    """The verdict is neither lost nor danger."""


class Ended(DoubtError):
    """The robot is told a reading, but its verdict is ended."""
