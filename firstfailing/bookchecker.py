"""The checker of books."""

from firstfailing.errors import InvalidPaper
from firstfailing.kinds import book_fault


def lets_book(thing):
    """How many letters a book has; refuses any value that is no book."""
    fault = book_fault(thing)
    if fault is not None:
        raise InvalidPaper(fault[0], fault[1])
    return len(thing[0])
