"""Contests of two causes, and the order that they make."""

from firstfailing.bookparts import comes_from, downs_of, need_at_most, need_thing, things_at_most
from firstfailing.rankings import ranking_of


def contest(book, x, a, b, *, manner="again"):
    """The contest of a and b from x."""
    need_thing(book, x, "x")
    need_at_most(book, a, x, "a")
    need_at_most(book, b, x, "b")
    return first_of(downs_of(book), ranking_of(book, x, manner=manner), (a, b))


def wins_of(book, x, a, *, manner="again"):
    """The set of the other things at most x of which the contest with a is a."""
    need_thing(book, x, "x")
    need_at_most(book, a, x, "a")
    ranking = ranking_of(book, x, manner=manner)
    downs = downs_of(book)
    return tuple([b for b in things_at_most(book, x) if b != a and first_of(downs, ranking, (a, b)) == a])


def order_by_contests(book, x, *, manner="again"):
    """All things at most x in an order of which the contests are the first ones."""
    ranking = ranking_of(book, x, manner=manner)
    return ranking + tuple([thing for thing in things_at_most(book, x) if thing not in ranking])


def first_of(downs, order, causes):
    """The first thing of an order that is at least one of the causes; one of its things is at least all of them."""
    return order[min([place_of(downs, order, cause) for cause in causes])]


def place_of(downs, order, cause):
    """The index of the first thing of an order that is at least the cause."""
    place = 0
    while not comes_from(downs, cause, order[place]):
        place = place + 1
    return place


def parting_of(book, x, order, other):
    """The least set of one or two causes at most x for which two orders have unlike first things, None if none is."""
    downs = downs_of(book)
    causes = things_at_most(book, x)
    places = [(place_of(downs, order, cause), place_of(downs, other, cause)) for cause in causes]
    for cause, (k, i) in zip(causes, places):
        if order[k] != other[i]:
            return (cause,)
    for at, (k, i) in enumerate(places):
        for end in range(at + 1, len(places)):
            if order[min(k, places[end][0])] != other[min(i, places[end][1])]:
                return (causes[at], causes[end])
    return None
