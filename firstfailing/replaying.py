"""Logs of trials, and trials that are led by them."""

from firstfailing.errors import FailError, NotUsable
from firstfailing.trialevents import is_event
from firstfailing.trials import Trial, trial_after


def is_log(thing):
    """Whether any value is the log of a trial by form, with a beginning that is possible."""
    if not isinstance(thing, tuple) or len(thing) == 0 or not is_beginning(thing[0]):
        return False
    return all([is_event(event) for event in thing[1:]])


def replayed(log):
    """A new trial behind the events of a log."""
    if not is_log(log):
        raise NotUsable("log", -1)
    return trial_after(log)


def is_beginning(thing):
    """Whether it is the first element of a log, of which a trial can be made."""
    if not isinstance(thing, tuple) or len(thing) != 4 or thing[0] != "trial":
        return False
    _, book, x, manner = thing
    try:
        Trial(book, x, manner=manner)
    except FailError:
        return False
    return True
