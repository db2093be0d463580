"""Whether least failing things are surely found, and which steps or rules lack."""

from firstfailing.bookparts import (
    comes_from, downs_of, letters_of, lessers_of, need_thing, next_less, next_lessers, things_at_most,
)
from firstfailing.rankings import ranking_of
from firstfailing.stepping import need_falling, steps_of


def lacking_steps(book, x):
    """The set of the next less things of x that are no steps of it."""
    need_thing(book, x, "x")
    need_falling(book)
    steps = steps_of(book, x)
    return tuple([thing for thing in next_less(book, x) if thing not in steps])


def finds_least(book, x, *, manner="again"):
    """Whether shrinking from x ends in a least failing thing by all rising tests by which x fails."""
    ranking = ranking_of(book, x, manner=manner)
    if len(ranking) < len(things_at_most(book, x)):
        return False
    downs = downs_of(book)
    return not any([
        comes_from(downs, thing, ahead) for k, thing in enumerate(ranking) for ahead in ranking[:k]
    ])


def is_complete(book):
    """Whether all next less things of each thing are steps of it."""
    return missing_rules(book) == ()


def missing_rules(book):
    """The fewest rules with which the book, behind its own, is complete."""
    need_falling(book)
    missing = []
    if not leaves_out_all(book):
        missing.append(("drop", 1, "left"))
    if not lowers_all(book):
        missing.append(("lower", "left"))
    return tuple(missing)


def leaves_out_all(book):
    """Whether each thing without one least letter is a step of it, for things of all lengths."""
    # Half and empty leave out one letter, too, but only of things with at most two.
    least = [letter for letter in letters_of(book) if lessers_of(book, letter) == ()]
    return has_drop(book) or all([does_put(book, letter, "") for letter in least])


def lowers_all(book):
    """Whether each thing with one letter replaced by a next lesser one is a step of it."""
    pairs = [(letter, lesser) for letter in letters_of(book) for lesser in next_lessers(book, letter)]
    return has_lower(book) or all([does_put(book, letter, lesser) for letter, lesser in pairs])


def has_drop(book):
    """Whether a rule leaves out each single letter."""
    return any([rule[0] == "drop" and rule[1] == 1 for rule in book[1]])


def has_lower(book):
    """Whether a rule puts each directly lesser letter for each letter."""
    return any([rule[0] == "lower" for rule in book[1]])


def does_put(book, letter, word):
    """Whether a rule puts this word for this letter, on whichever side it begins."""
    return any([rule[0] == "put" and rule[1:3] == (letter, word) for rule in book[1]])
