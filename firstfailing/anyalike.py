"""Whether two books end alike from a thing by tests of any kind."""

from firstfailing.anyends import steps_from
from firstfailing.bookparts import need_other, need_thing
from firstfailing.ending import need_ending


def parts_any(book, other, x):
    """A test by which the two books end in unlike things from x, None if there is none."""
    word, told = case_paper(book, other, x)
    return told if word == "parts" else None


def case_paper(book, other, x):
    """The paper that the two books end alike from x by all tests, or a test by which they do not."""
    need_other(book, other)
    need_thing(book, x, "x")
    need_ending(book)
    need_ending(other)
    tables = (steps_from(book, x), steps_from(other, x))
    nodes = [()]
    left = [(0, {x: True})]
    while left:
        k, known = left.pop()
        question, ends = walks_by(tables, x, known)
        if question is not None:
            i = len(nodes)
            nodes[k] = ("ask", question, i, i + 1)
            nodes.extend([(), ()])
            left.append((i + 1, {**known, question: False}))
            left.append((i, {**known, question: True}))
        elif ends[0] == ends[1]:
            nodes[k] = ("end", ends[0])
        else:
            return ("parts", ("only", tuple(sorted([thing for thing in known if known[thing]]))))
    return ("alike", tuple(nodes))


def walks_by(tables, x, known):
    """The first thing that one of the walks asks and that is not known; else None and their ends."""
    ends = []
    for steps in tables:
        is_open, thing = walk_by(steps, x, known)
        if is_open:
            return (thing, ())
        ends.append(thing)
    return (None, tuple(ends))


def walk_by(steps, x, known):
    """Whether shrinking from x asks a thing that is not known, and this thing, else the last one."""
    thing = x
    place = 0
    while place < len(steps[thing]):
        step = steps[thing][place]
        if step not in known:
            return (True, step)
        if known[step]:
            thing, place = step, 0
        else:
            place = place + 1
    return (False, thing)
