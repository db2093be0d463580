"""Where shrinking can end by tests of any kind, the way there, and a test for it."""

from firstfailing.bookparts import need_thing
from firstfailing.ending import need_ending
from firstfailing.stepping import steps_of


def possible_ends(book, x):
    """The set of the things in which shrinking from x ends by some test by which x fails."""
    need_thing(book, x, "x")
    need_ending(book)
    return tuple(sorted(list(ways_from(book, x))))


def way_to(book, x, z):
    """A row of steps from x to z, None if there is none."""
    need_thing(book, x, "x")
    need_thing(book, z, "z")
    need_ending(book)
    came_from = ways_from(book, x)
    if z not in came_from:
        return None
    way = [z]
    while way[-1] != x:
        way.append(came_from[way[-1]])
    return tuple(way[::-1])


def test_for(book, x, z):
    """A test by which x fails and shrinking from x ends in z, None if there is none."""
    way = way_to(book, x, z)
    if way is None:
        return None
    return ("only", tuple(sorted(list(way))))


def ways_from(book, x):
    """For each thing to which steps lead from x, and x, the thing before it on a shortest way."""
    came_from = {x: x}
    found = [x]
    place = 0
    # What is found first is gone on from first, so that each way is a shortest one.
    while place < len(found):
        thing = found[place]
        for step in steps_of(book, thing):
            if step not in came_from:
                came_from[step] = thing
                found.append(step)
        place = place + 1
    return came_from


def steps_from(book, x):
    """The steps of x, and of each thing to which steps lead from it."""
    return {thing: steps_of(book, thing) for thing in ways_from(book, x)}
