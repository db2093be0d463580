"""The checker of papers that two books end alike by tests of any kind, or do not."""

from firstfailing.bookparts import has_letters, need_other, need_thing
from firstfailing.errors import InvalidPaper
from firstfailing.failing import is_failing
from firstfailing.kinds import is_number, is_pair, is_test
from firstfailing.stepping import steps_of

MOST_TRIES = 100


def lets_cases(book, other, x, thing):
    """Whether the two books end alike from x, by a paper; refuses any value that does not show it."""
    need_other(book, other)
    need_thing(book, x, "x")
    if not is_pair(thing) or thing[0] not in ("parts", "alike"):
        raise InvalidPaper("shape", -1)
    word, told = thing
    if word == "parts":
        check_test((book, other), x, told)
        return False
    if not isinstance(told, tuple) or len(told) == 0:
        raise InvalidPaper("shape", -1)
    check_nodes(book, told)
    check_led(told)
    check_known((book, other), x, told)
    return True


def check_test(books, x, test):
    """Refuses what is no test by which x fails and the books end in unlike things."""
    book = books[0]
    if not is_test(test) or not all([has_letters(book, thing) for thing in test[1]]):
        raise InvalidPaper("test", -1)
    if not is_failing(book, test, x):
        raise InvalidPaper("test", -1)
    ends = [end_by(one, x, lambda step: is_failing(book, test, step)) for one in books]
    if None in ends or ends[0] == ends[1]:
        raise InvalidPaper("last", -1)


def check_nodes(book, nodes):
    """Refuses nodes one of which is no node by form."""
    for k, node in enumerate(nodes):
        if not is_node(book, node, k, len(nodes)):
            raise InvalidPaper("node", k)


def check_led(nodes):
    """Refuses nodes one of which, but the first, is not led to just once."""
    led = {}
    for node in nodes:
        for i in node[2:]:
            led[i] = led.get(i, 0) + 1
    for k in range(1, len(nodes)):
        if led.get(k, 0) != 1:
            raise InvalidPaper("led", k)


def check_known(books, x, nodes):
    """Refuses nodes of which one asks what is known, or one ends where not all is known or otherwise."""
    known_at = {0: {x: True}}
    for k, node in enumerate(nodes):
        known = known_at.pop(k)
        if node[0] == "end":
            check_end(books, x, known, k, node[1])
            continue
        _, thing, i, j = node
        if thing in known:
            raise InvalidPaper("known", k)
        known_at[i] = {**known, thing: True}
        known_at[j] = {**known, thing: False}


def check_end(books, x, known, k, end):
    """Refuses an end node where shrinking asks what is not known, or ends elsewhere."""
    ends = [end_by(one, x, lambda step: known.get(step)) for one in books]
    if None in ends:
        raise InvalidPaper("open", k)
    if ends[0] != end or ends[1] != end:
        raise InvalidPaper("last", k)


def is_node(book, node, k, many):
    """Whether it is node k by form, of so many nodes."""
    if not isinstance(node, tuple) or len(node) < 2 or not has_letters(book, node[1]):
        return False
    if node[0] == "end":
        return len(node) == 2
    if node[0] != "ask" or len(node) != 4:
        return False
    return all([is_number(i) and k < i < many for i in node[2:]]) and node[2] != node[3]


def end_by(book, x, answer):
    """The last thing of shrinking from x; None if it asks too often, or what has no answer."""
    thing = x
    steps = steps_of(book, x)
    place = 0
    tries = 0
    while place < len(steps):
        it_fails = answer(steps[place])
        tries = tries + 1
        if it_fails is None or tries > MOST_TRIES:
            return None
        if it_fails:
            thing = steps[place]
            steps = steps_of(book, thing)
            place = 0
        else:
            place = place + 1
    return thing
