"""Walks: shrinking by a test."""

from firstfailing.asking import Asker
from firstfailing.failing import need_failing


def walk_of(book, test, x, *, manner="again", notes=False):
    """The walk of shrinking from x: the things that it goes to, each with its number of tries."""
    need_failing(book, test, x)
    asker = Asker(book, x, manner=manner, notes=notes)
    asker(test)
    return asker.walk_now


def last_of(book, test, x, *, manner="again", notes=False):
    """The thing at which shrinking from x ends."""
    return walk_of(book, test, x, manner=manner, notes=notes)[-1][0]


def tries_of(book, test, x, *, manner="again", notes=False):
    """How many tries shrinking from x makes."""
    return sum([tries for _, tries in walk_of(book, test, x, manner=manner, notes=notes)])
