"""Tests by which shrinking never ends."""

from firstfailing.ending import ring_of


def endless_test(book):
    """A letter and a test by which shrinking from it never ends, None if the book is ending."""
    ring = ring_of(book)
    if ring == ():
        return None
    return (ring[0], ("has", ring))
