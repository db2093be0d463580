"""The checker of makers of things."""

from firstfailing.errors import InvalidPaper, NotUsable
from firstfailing.kinds import is_count, is_letter_set, is_number, is_pair


def lets_maker(letters, thing):
    """How many states a maker of things of these letters has; refuses any value that is none."""
    if not is_letter_set(letters):
        raise NotUsable("letters", -1)
    if not isinstance(thing, tuple) or len(thing) == 0:
        raise InvalidPaper("shape", -1)
    for s, state in enumerate(thing):
        if not is_pair(state) or not isinstance(state[0], tuple) or not is_number(state[1]):
            raise InvalidPaper("state", s)
        before = ""
        for k, arrow in enumerate(state[0]):
            if not is_arrow(letters, arrow, len(thing)) or arrow[0] <= before:
                raise InvalidPaper("arrow", (s, k))
            before = arrow[0]
    return len(thing)


def is_arrow(letters, thing, many):
    """Whether it is a triple of one of the letters, one of so many states, and a weight."""
    if not isinstance(thing, tuple) or len(thing) != 3:
        return False
    letter, state, weight = thing
    return letter in letters and is_number(state) and state < many and is_count(weight)
