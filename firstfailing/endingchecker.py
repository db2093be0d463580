"""The checker of papers that a book is ending, or is not."""

from firstfailing.bookparts import letters_of
from firstfailing.ending import given_words
from firstfailing.errors import InvalidPaper
from firstfailing.kinds import is_letter_set, is_pair, is_weights


def lets_ending(book, thing):
    """Whether the book is ending, by a paper; refuses any value that does not show it."""
    if not is_pair(thing) or thing[0] not in ("weights", "ring") or not isinstance(thing[1], tuple):
        raise InvalidPaper("shape", -1)
    word, told = thing
    if word == "weights":
        check_weights(book, told)
        return True
    check_ring(book, told)
    return False


def check_weights(book, weights):
    """Refuses what are no weights of the book."""
    letters = letters_of(book)
    if not is_weights(weights) or len(weights) != len(letters):
        raise InvalidPaper("weights", -1)
    weight_of = dict(zip(letters, weights))
    for r, rule in enumerate(book[1]):
        for letter, word in words_put(book, rule):
            if weight_of[letter] <= sum([weight_of[given] for given in word]):
                raise InvalidPaper("rule", r)


def words_put(book, rule):
    """The pairs of a letter and a word that a put or a lower rule puts for it."""
    if rule[0] == "put":
        return [rule[1:3]]
    if rule[0] == "lower":
        return [(letter, lesser) for letter, lessers in book[0] for lesser in lessers]
    return []


def check_ring(book, ring):
    """Refuses what is no nonempty set of letters for each of which a rule gives one of them."""
    letters = letters_of(book)
    if len(ring) == 0 or not is_letter_set(ring) or not all([letter in letters for letter in ring]):
        raise InvalidPaper("letters", -1)
    for i, letter in enumerate(ring):
        given = "".join(given_words(book, letter))
        if not any([other in ring for other in given]):
            raise InvalidPaper("letter", i)
