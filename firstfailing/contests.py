"""Contests of two causes, and the order that they make."""

from firstfailing.bookparts import comes_from, downs_of, need_at_most, need_thing, things_at_most
from firstfailing.rankings import ranking_of


def contest(book, x, a, b, *, manner="again"):
    """The contest of a and b from x."""
    need_thing(book, x, "x")
    need_at_most(book, a, x, "a")
    need_at_most(book, b, x, "b")
    return first_of(downs_of(book), ranking_of(book, x, manner=manner), (a, b))


def wins_of(book, x, a, *, manner="again"):
    """The set of the other things at most x of which the contest with a is a."""
    need_thing(book, x, "x")
    need_at_most(book, a, x, "a")
    ranking = ranking_of(book, x, manner=manner)
    downs = downs_of(book)
    return tuple([b for b in things_at_most(book, x) if b != a and first_of(downs, ranking, (a, b)) == a])


def order_by_contests(book, x, *, manner="again"):
    """All things at most x in an order of which the contests are the first ones."""
    ranking = ranking_of(book, x, manner=manner)
    return ranking + tuple([thing for thing in things_at_most(book, x) if thing not in ranking])


def first_of(downs, ranking, causes):
    """The first thing of a ranking that is at least one of the causes."""
    for thing in ranking:
        if any([comes_from(downs, cause, thing) for cause in causes]):
            return thing
    return None
