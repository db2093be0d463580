"""Whether shrinking by a book ends: weights of its letters, or a ring of them."""

from firstfailing.bookparts import letters_of
from firstfailing.errors import NotEnding


def is_ending(book):
    """Whether no row of steps is endless."""
    return ring_of(book) == ()


def least_weights(book):
    """The weights of the book of which each is the least that it can be."""
    need_ending(book)
    rows = {letter: given_words(book, letter) for letter in letters_of(book)}
    weights = {}
    while len(weights) < len(rows):
        for letter, words in rows.items():
            if letter not in weights and all([given in weights for word in words for given in word]):
                sums = [sum([weights[given] for given in word]) for word in words]
                weights[letter] = 1 + max(sums, default=0)
    return tuple([weights[letter] for letter in rows])


def ending_paper(book):
    """The paper that the book is ending, with weights, or that it is not, with a ring."""
    ring = ring_of(book)
    if ring == ():
        return ("weights", least_weights(book))
    return ("ring", ring)


def need_ending(book):
    """Refuses a book that is not ending."""
    ring = ring_of(book)
    if ring != ():
        raise NotEnding(ring)


def given_words(book, letter):
    """The words that the put rules and the lower rules of the book give for a letter."""
    words = [rule[2] for rule in book[1] if rule[0] == "put" and rule[1] == letter]
    if any([rule[0] == "lower" for rule in book[1]]):
        words.extend(dict(book[0])[letter])
    return words


def ring_of(book):
    """The greatest set of letters for each of which a rule gives one of them, empty if none does."""
    ring = letters_of(book)
    given = {letter: "".join(given_words(book, letter)) for letter in ring}
    while True:
        kept = tuple([letter for letter in ring if any([other in ring for other in given[letter]])])
        if kept == ring:
            return ring
        ring = kept
