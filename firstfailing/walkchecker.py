"""The checker of walks."""

from firstfailing.errors import InvalidPaper
from firstfailing.kinds import is_integer, is_pair
from firstfailing.walking import walk_of


def lets_walk(book, test, x, thing, *, manner="again", notes=False):
    """How many tries a walk has; refuses any value that is not the walk of shrinking from x."""
    walk = walk_of(book, test, x, manner=manner, notes=notes)
    if not isinstance(thing, tuple) or len(thing) == 0 or not all([is_pair(part) for part in thing]):
        raise InvalidPaper("shape", -1)
    for k, (place, tries) in enumerate(thing):
        if k >= len(walk) or place != walk[k][0]:
            raise InvalidPaper("thing", k)
        if not is_integer(tries) or tries != walk[k][1]:
            raise InvalidPaper("tries", k)
    if len(thing) < len(walk):
        raise InvalidPaper("end", -1)
    return sum([tries for _, tries in walk])
