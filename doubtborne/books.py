"""Checking books: the first thing that is wrong with one."""

from doubtborne.commands import COMMANDS
from doubtborne.errors import (
    BadFault, BadMover, BadNumber, BadPlan, BadPush, BadRule, BadSensor, BadStart, BadTask, NoWorld, TooLarge)
from doubtborne.plans import MARKS, MOVES, check_lines, doors_of
from doubtborne.sensors import sensor_top
from doubtborne.sets import is_ascending, is_some_of
from doubtborne.tasks import MOST_NUMBER, parts_of
from doubtborne.worlds import start_worlds

MOST_RULES = 8
GREATEST_COUNT = 6
MOST_SENSORS = 4
GREATEST_FAR = 4
GREATEST_ERROR = 4
GREATEST_DISTANCE = 16
MOST_TRAILS = 4
MOST_TURNS = 3
MOST_MOVERS = 2
MOST_POSTS = 6
MOST_FAULTS = 3
GREATEST_ROOM = 12
GREATEST_COST = 4
MOST_NODES = 12
MOST_AROUND = 5
MOST_READINGS = 400


def check_book(book):
    """None for a right book; raises the error for the first thing that is wrong."""
    _, plan, rules, sensors, pushes, movers, faults, most, battery, task, start = book
    _check_plan(plan)
    _check_rules(doors_of(plan), rules)
    _check_sensors(sensors)
    _check_trails(0, pushes[0])
    _check_trails(1, pushes[1])
    cells = len(plan) * len(plan[0])
    _check_movers(cells, movers)
    _check_faults(len(sensors), faults)
    _check_numbers(most, battery)
    _check_task(task)
    _check_start(cells, movers, start)
    _check_readings(sensors)
    if len(start_worlds(book)) == 0:
        raise NoWorld()


def _first_bad(things, most, is_right):
    """The number of the first thing that is one too many or not right, or None."""
    for number, thing in enumerate(things):
        if number == most or not is_right(thing):
            return number
    return None


def _check_plan(plan):
    """Raises BadPlan for the first bad place of the plan."""
    if len(plan) == 0:
        raise BadPlan(0, 0)
    check_lines(plan)


def _check_rules(doors, rules):
    """Raises BadRule for the first bad rule over so many doors."""
    number = _first_bad(rules, MOST_RULES, lambda rule: _is_rule(doors, rule))
    if number is not None:
        raise BadRule(number)


def _is_rule(doors, rule):
    """Whether it is a rule over so many doors."""
    _, n, literals = rule
    if not 0 <= n <= GREATEST_COUNT or len(set(literals)) < len(literals):
        return False
    return all(1 <= abs(literal) <= doors for literal in literals)


def _check_sensors(sensors):
    """Raises BadSensor for the first bad sensor."""
    number = _first_bad(sensors, MOST_SENSORS, _is_sensor)
    if number is not None:
        raise BadSensor(number)


def _is_sensor(sensor):
    """Whether its numbers are within their bounds."""
    if sensor[0] == "range":
        _, direction, far, error = sensor
        return 0 <= direction < len(MOVES) and 1 <= far <= GREATEST_FAR and 0 <= error <= GREATEST_ERROR
    if sensor[0] == "mark":
        return is_ascending(sensor[1]) and all(_is_confusion(pair) for pair in sensor[1])
    if sensor[0] == "near":
        return 0 <= sensor[1] <= sensor[2] <= GREATEST_DISTANCE
    return True


def _is_confusion(pair):
    """Whether it is a mark and another value for which it can be taken."""
    mark, value = pair
    return mark != value and 0 <= mark <= len(MARKS) and 0 <= value <= len(MARKS)


def _check_trails(which, trails):
    """Raises BadPush for the first bad trail of dry or slick floor, which tells of which."""
    if len(trails) == 0:
        raise BadPush(which, 0)
    for number, trail in enumerate(trails):
        is_in_order = number == 0 or trails[number - 1] < trail
        if number == MOST_TRAILS or not _is_trail(trail) or not is_in_order:
            raise BadPush(which, number)


def _is_trail(trail):
    """Whether it is a trail."""
    return len(trail) <= MOST_TURNS and all(0 <= turn < len(MOVES) for turn in trail)


def _check_movers(cells, movers):
    """Raises BadMover for the first bad mover on a plan with so many cells."""
    number = _first_bad(movers, MOST_MOVERS, lambda mover: _is_mover(cells, mover))
    if number is not None:
        raise BadMover(number)


def _is_mover(cells, mover):
    """Whether it is a mover on a plan with so many cells."""
    _, places, leads = mover
    posts = len(places)
    if not 1 <= posts <= MOST_POSTS or len(leads) != posts:
        return False
    return all(0 <= cell < cells for cell in places) and all(is_some_of(news, posts) for news in leads)


def _check_faults(sensors, faults):
    """Raises BadFault for the first bad fault of a book with so many sensors."""
    for number, fault in enumerate(faults):
        if number == MOST_FAULTS or not _is_fault(sensors, fault) or fault in faults[:number]:
            raise BadFault(number)


def _is_fault(sensors, fault):
    """Whether it is a fault where there are so many sensors."""
    if fault[0] == "drift":
        return 1 <= fault[1] < COMMANDS and _is_trail(fault[2])
    return 0 <= fault[1] < sensors


def _check_numbers(most, battery):
    """Raises BadNumber for the first number that is out of its bounds."""
    _, room, wait, move, slick, gain = battery
    bounds = (
        ("most", most, MOST_FAULTS), ("room", room, GREATEST_ROOM), ("wait", wait, GREATEST_COST),
        ("move", move, GREATEST_COST), ("slick", slick, GREATEST_COST), ("gain", gain, GREATEST_COST))
    for name, number, greatest in bounds:
        if not 0 <= number <= greatest:
            raise BadNumber(name)


def _check_task(task):
    """Raises BadTask for the first bad node of the task in preorder."""
    # Of each node that is still to be looked at, the last one next, also in how many others it is contained.
    waiting = [(task, 0)]
    at = 0
    while waiting:
        node, around = waiting.pop()
        if at == MOST_NODES or around > MOST_AROUND or not _is_node(node):
            raise BadTask(at)
        waiting.extend([(part, around + 1) for part in reversed(parts_of(node))])
        at += 1


def _is_node(node):
    """Whether the mark or the number of the node, if it has one, is within its bounds."""
    if node[0] in ("at", "without"):
        return 1 <= node[1] <= len(MARKS)
    return node[0] != "within" or 0 <= node[1] <= MOST_NUMBER


def _check_start(cells, movers, start):
    """Raises BadStart for the first bad part of the start."""
    begins, posts = start
    if not is_some_of(begins, cells):
        raise BadStart(0)
    if len(posts) != len(movers):
        raise BadStart(1)
    for number, mover in enumerate(movers):
        if not is_some_of(posts[number], len(mover[1])):
            raise BadStart(number + 2)


def _check_readings(sensors):
    """Raises TooLarge if there can be too many readings."""
    many = 1
    for sensor in sensors:
        many = many * (sensor_top(sensor) + 1)
    if many > MOST_READINGS:
        raise TooLarge("readings")
