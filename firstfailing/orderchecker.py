"""The checker of orders by which contests go."""

from firstfailing.bookparts import need_thing, things_at_most
from firstfailing.contests import parting_of
from firstfailing.errors import InvalidPaper
from firstfailing.kinds import is_thing
from firstfailing.rankings import ranking_of
from firstfailing.stepping import need_falling, need_manner


def lets_order(book, x, thing, *, manner="again"):
    """How many things an order for x has; refuses any value that is none."""
    need_thing(book, x, "x")
    need_manner(manner, "manner")
    need_falling(book)
    check_order(book, x, thing, manner, "contest")
    return len(thing)


def check_order(book, x, thing, manner, word):
    """Refuses any value that is no order for x, by this word if a contest goes otherwise."""
    if not isinstance(thing, tuple) or not all([is_thing(part) for part in thing]):
        raise InvalidPaper("things", -1)
    if tuple(sorted(thing)) != things_at_most(book, x):
        raise InvalidPaper("things", -1)
    # Contests are the first things of the ranking that are at least one of the two.
    causes = parting_of(book, x, ranking_of(book, x, manner=manner), thing)
    if causes is not None:
        raise InvalidPaper(word, causes)
