"""The rankings of things: shrinking by a rising test ends in the first failing thing of one."""

from firstfailing.bookparts import need_at_most, need_thing
from firstfailing.failing import is_failing, need_failing
from firstfailing.stepping import led_steps, need_falling, need_manner


def ranking_of(book, x, *, manner="again"):
    """The ranking of x with this manner."""
    need_thing(book, x, "x")
    need_manner(manner, "manner")
    need_falling(book)
    return ranking_from(book, x, 0, manner)


def place_in_ranking(book, x, z, *, manner="again"):
    """The index of z in the ranking of x, None if z is not in it."""
    need_thing(book, x, "x")
    need_at_most(book, z, x, "z")
    ranking = ranking_of(book, x, manner=manner)
    return ranking.index(z) if z in ranking else None


def first_failing(book, test, x, *, manner="again"):
    """The first thing of the ranking of x that fails by the test."""
    need_failing(book, test, x)
    ranking = ranking_of(book, x, manner=manner)
    return [thing for thing in ranking if is_failing(book, test, thing)][0]


def ranking_from(book, x, rule, manner):
    """The ranking of x, to which the result of this rule led, in a falling book."""
    ranking = {}
    begun = {}
    left = [(x, rule)]
    while left:
        thing, led_by = left.pop()
        if thing in begun:
            # In a falling book nothing leads back, so all its steps are in the ranking by now.
            ranking[thing] = True
        else:
            begun[thing] = True
            left.append((thing, led_by))
            steps = led_steps(book, thing, led_by if manner == "on" else 0)
            left.extend(steps[::-1])
    return tuple(list(ranking))
