"""Shrinking that leaves out questions, where the test is taken to be rising."""

from firstfailing.asking import Asker
from firstfailing.bookparts import comes_from, downs_of, need_thing
from firstfailing.stepping import need_falling, need_manner


class Skipper(Asker):
    """An Asker that never asks what is at most a thing that was answered not to fail."""

    def __init__(self, book, x, *, manner="again"):
        # What is not ending is not falling either, and that is to be told.
        need_thing(book, x, "x")
        need_manner(manner, "manner")
        need_falling(book)
        super().__init__(book, x, manner=manner)

    def copied(self):
        """A Skipper that stands as this one."""
        return self._led(Skipper(self._book, self._x, manner=self._manner))

    def _asked_of(self, steps):
        """Those of the steps, each with its rule, that are at most nothing that passed."""
        downs = downs_of(self._book)
        passed = [thing for thing, it_fails in self._said if not it_fails]
        return tuple([pair for pair in steps if not any([comes_from(downs, pair[0], thing) for thing in passed])])
