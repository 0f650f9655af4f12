"""Reading tasks from texts."""

from doubtborne.errors import BadTask
from doubtborne.plans import MARKS
from doubtborne.tasks import MOST_NUMBER

# The words that join two tasks, the loosest one first, with the words of their trees.
JOINTS = (("or", "either"), ("and", "both"), ("then", "then"))


def parse_task(text):
    """The tree that has this text; raises BadTask for the first bad token."""
    tokens = _tokens(text)
    tree, at = _joined(tokens, 0, 0)
    if at < len(tokens):
        raise BadTask(at)
    return tree


def _tokens(text):
    """The tokens of the text: longest runs of letters and digits, and other single characters but blanks."""
    found = []
    is_in_run = False
    for sign in text:
        if is_in_run and sign.isalnum():
            found[-1] = found[-1] + sign
        elif sign != " ":
            found.append(sign)
        is_in_run = sign.isalnum()
    return found


def _token(tokens, at):
    """The token with this number, empty behind the last one."""
    return tokens[at] if at < len(tokens) else ""


def _joined(tokens, at, level):
    """The tree of the form of this level that begins here, and the number of the token behind it."""
    if level == len(JOINTS):
        return _unit(tokens, at)
    word, name = JOINTS[level]
    tree, at = _joined(tokens, at, level + 1)
    while _token(tokens, at) == word:
        other, at = _joined(tokens, at + 1, level + 1)
        tree = (name, tree, other)
    return (tree, at)


def _unit(tokens, at):
    """The tree of the unit that begins here, and the number of the token behind it."""
    bounds, begin = _bounds(tokens, at)
    tree, behind = _unbounded_unit(tokens, begin)
    for word, bound in reversed(bounds):
        tree = (word, bound, tree)
    return (tree, behind)


def _bounds(tokens, at):
    """A list of the bounds that stand here, each one as its word and its number, and the number of the token behind."""
    found = []
    while _token(tokens, at) in ("without", "within"):
        bound = _mark(tokens, at + 1) if tokens[at] == "without" else _number(tokens, at + 1)
        found.append((tokens[at], bound))
        at += 2
    return (found, at)


def _unbounded_unit(tokens, at):
    """The tree of the unit without bounds that begins here, and the number of the token behind it."""
    word = _token(tokens, at)
    if word in ("done", "fail"):
        return ((word,), at + 1)
    if word == "at":
        return (("at", _mark(tokens, at + 1)), at + 2)
    if word == "(":
        return _in_parentheses(tokens, at)
    raise BadTask(at)


def _mark(tokens, at):
    """The mark that this token means."""
    word = _token(tokens, at)
    if len(word) != 1 or word not in MARKS:
        raise BadTask(at)
    return MARKS.find(word) + 1


def _number(tokens, at):
    """The number that this token means."""
    word = _token(tokens, at)
    # A longer word means too much in any case, and may be too long to be turned into a number.
    if not word.isdigit() or len(word) > 2 or (word[0] == "0" and word != "0") or int(word) > MOST_NUMBER:
        raise BadTask(at)
    return int(word)


def _in_parentheses(tokens, at):
    """The tree of the task in parentheses that begin here, and the number of the token behind them."""
    tree, behind = _joined(tokens, at + 1, 0)
    if _token(tokens, behind) != ")":
        raise BadTask(behind)
    return (tree, behind + 1)
