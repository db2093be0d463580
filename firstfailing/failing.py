"""Whether things fail by a test."""

from firstfailing.bookparts import comes_from, downs_of, has_letters, need_thing, things_at_most
from firstfailing.errors import NotUsable
from firstfailing.kinds import is_test


def fails_by(book, test, x):
    """Whether x fails by the test."""
    need_test(book, test)
    need_thing(book, x, "x")
    return is_failing(book, test, x)


def failing_at_most(book, test, x):
    """The set of the things at most x that fail by the test."""
    need_test(book, test)
    return tuple([thing for thing in things_at_most(book, x) if is_failing(book, test, thing)])


def need_test(book, test):
    """Refuses what is no test of which all things are of the letters of the book."""
    if not is_test(test) or not all([has_letters(book, thing) for thing in test[1]]):
        raise NotUsable("test", -1)


def need_failing(book, test, x):
    """Refuses what is no test of the letters of the book, and what is no thing of them that fails by it."""
    need_test(book, test)
    need_thing(book, x, "x")
    if not is_failing(book, test, x):
        raise NotUsable("x", -1)


def is_failing(book, test, x):
    """Whether x fails by a test, where both are right for the book."""
    word, things = test
    if word == "causes":
        downs = downs_of(book)
        return any([comes_from(downs, thing, x) for thing in things])
    if word == "only":
        return x in things
    if word == "but":
        return x not in things
    return any([letter in things for letter in x])
