"""The greatest errors and numbers of faults with which a start is still borne."""

from doubtborne.books import GREATEST_ERROR
from doubtborne.modelgoals import task_goals
from doubtborne.models import model_of
from doubtborne.webs import borne_within


def greatest_error(book, number, steps):
    """The greatest error of this range sensor with which the start is borne within the steps; raises TooMany."""
    return _greatest([_with_error(book, number, error) for error in range(GREATEST_ERROR + 1)], steps)


def _with_error(book, number, error):
    """The book in which the range sensor with this number has this error."""
    sensors = book[3]
    changed = sensors[number][:3] + (error,)
    return book[:3] + (sensors[:number] + (changed,) + sensors[number + 1:],) + book[4:]


def greatest_most(book, steps):
    """The greatest number of faults at most with which the start is borne within the steps; raises TooMany."""
    return _greatest([book[:7] + (most,) + book[8:] for most in range(len(book[6]) + 1)], steps)


def _greatest(books, steps):
    """The number of the last book ahead of the first one whose start is not borne within the steps, or None."""
    found = None
    for number, book in enumerate(books):
        model = model_of(book)
        if not borne_within(model[3], task_goals(model), model[4], steps):
            return found
        found = number
    return found
