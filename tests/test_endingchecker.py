"""Points [22], [24], [25], [26], and (G7) in [9]: the checker of papers that a book is ending, or is not."""

import itertools
import unittest

from firstfailing.ending import ending_paper, least_weights
from firstfailing.endingchecker import lets_ending
from firstfailing.errors import InvalidPaper
from firstfailing.bookchanges import mirrored, without_rule
from tests.support import (
    BACK, BOOK, BOOKS, CHAIN, CHAIN_LETTERS, DIAMOND, GROWING, LETTERS, LOOSE, NO_LETTERS, NO_RULES, NOTHING, RULES, SIX, Case,
    are_weights, gives, has_ring, is_ring, names, small_books, steps, things_of,
)

ODD_VALUES = (None, True, False, 0, 1, -1, "", "a", (), [], (1,), ("a",), [1, 2, 1], ["a"], 10 ** 59)


def verdict(book, thing):
    """What the checker is to say: True, False, or the word and the place of the first entry that applies."""
    if type(thing) is not tuple or len(thing) != 2 or type(thing[0]) is not str or thing[0] not in ("weights", "ring"):
        return ("shape", -1)
    word, told = thing
    if type(told) is not tuple:
        return ("shape", -1)
    if word == "weights":
        if len(told) != len(book[0]) or any(type(weight) is not int or weight < 1 for weight in told):
            return ("weights", -1)
        of = dict(zip(names(book), told))
        for r, rule in enumerate(book[1]):
            one = (book[0], (rule,))
            if any(of[letter] <= sum(of[given] for given in put) for letter in names(book) for put in gives(one, letter)):
                return ("rule", r)
        return True
    if told == () or any(type(letter) is not str or letter not in names(book) for letter in told):
        return ("letters", -1)
    if list(told) != sorted(set(told)):
        return ("letters", -1)
    for i, letter in enumerate(told):
        if not any(other in put for put in gives(book, letter) for other in told):
            return ("letter", i)
    return False


class Checks(Case):
    def says(self, book, thing, wanted=None):
        """The checker says what it is to say, and this, if told."""
        right = verdict(book, thing)
        if wanted is not None:
            self.same(right, wanted, (book, thing))
        if isinstance(right, bool):
            self.same(lets_ending(book, thing), right, (book, thing))
        else:
            self.refused(InvalidPaper, {"word": right[0], "at": right[1]}, lets_ending, book, thing)

    def test_the_examples(self):
        self.same([lets_ending(BOOK, ("weights", (1, 5, 2))), lets_ending(LOOSE, ("ring", ("a", "c")))], [True, False])
        self.refused(InvalidPaper, {"word": "rule", "at": 1}, lets_ending, BOOK, ("weights", (1, 1, 1)))

    def test_papers_that_are_written_are_accepted(self):
        for book in (*BOOKS, *small_books(LETTERS)):
            self.same(lets_ending(book, ending_paper(book)), not has_ring(book), book)

    def test_all_small_weights_and_rings(self):
        for book in (*BOOKS, *small_books(LETTERS, 1), (LETTERS, (RULES[8], RULES[15], RULES[11]))):
            for row in itertools.product(range(1, 4), repeat=len(book[0])):
                self.says(book, ("weights", row))
                self.assertEqual(verdict(book, ("weights", row)) is True, are_weights(book, row))
            for many in range(len(book[0]) + 1):
                for row in itertools.combinations(names(book), many):
                    self.says(book, ("ring", row))
                    self.assertEqual(verdict(book, ("ring", row)) is False, is_ring(book, row))

    def test_shape(self):
        for book in (BOOK, LOOSE, NOTHING):
            for value in (
                *ODD_VALUES, "weights", "ring", ("weights",), ("ring",), ("weights", (1, 2, 1), ()), ("ring", ("a",), ()),
                ["weights", (1, 2, 1)], ("weights", [1, 2, 1]), ("ring", ["a"]), ("weights", None), ("weights", 1), ("ring", "a"),
                ("ring", "ac"), ("weight", (1, 2, 1)), ("rings", ("a",)), ("Ring", ("a",)), (True, (1, 2, 1)), (["ring"], ("a",)),
                (("ring",), ("a",)), ("", (1, 2, 1)), ((1, 2, 1), "weights"), (None, None),
            ):
                self.says(book, value, ("shape", -1))

    def test_weights(self):
        for row in [
            (), (1,), (1, 2), (1, 2, 1, 1), (0, 2, 1), (1, 2, 0), (-1, 2, 1), (1, True, 1), (True, 2, 1), (1, 2, None),
            (1, "2", 1), (1, (2,), 1), ([1], 2, 1), ("a", "b", "c"), (1, 2, [1]),
        ]:
            self.says(BOOK, ("weights", row), ("weights", -1))
            self.says(LOOSE, ("weights", row), ("weights", -1))
        self.says(NOTHING, ("weights", ()), True)
        self.says(NOTHING, ("weights", (1,)), ("weights", -1))
        self.says(NO_LETTERS, ("weights", ()), True)
        self.says(NO_RULES, ("weights", (1, 1, 1)), True)
        self.says(CHAIN, ("weights", (10 ** 59, 1, 1)), True)

    def test_rules_in_their_order(self):
        book = (LETTERS, (("drop", 1, "left"), ("put", "c", "ab", "left"), ("lower", "left"), ("put", "b", "a", "right")))
        for row, wanted in [
            ((1, 2, 4), True), ((1, 2, 3), ("rule", 1)), ((1, 1, 3), ("rule", 2)), ((1, 1, 2), ("rule", 1)),
            ((2, 1, 9), ("rule", 2)), ((2, 3, 6), True), ((2, 3, 5), ("rule", 1)), ((10 ** 59, 10 ** 59 + 1, 2 * 10 ** 59 + 2), True),
            ((10 ** 59, 10 ** 59 + 1, 2 * 10 ** 59 + 1), ("rule", 1)),
        ]:
            self.says(book, ("weights", row), wanted)
        self.says((LETTERS, book[1][::-1]), ("weights", (1, 1, 2)), ("rule", 0))
        self.says((LETTERS, (("put", "a", "", "left"), ("put", "b", "aa", "left"))), ("weights", (1, 2, 1)), ("rule", 1))
        self.says((LETTERS, (("put", "a", "", "left"), ("put", "b", "aa", "left"))), ("weights", (1, 3, 1)), True)
        self.says((LETTERS, (("put", "a", "aa", "left"),)), ("weights", (1, 1, 1)), ("rule", 0))

    def test_the_lower_rule_wants_all_lesser_letters_less(self):
        book = (CHAIN_LETTERS, (("lower", "right"),))
        for row in itertools.product(range(1, 5), repeat=3):
            self.says(book, ("weights", row), True if row[0] < row[1] < row[2] else ("rule", 0))
        self.says((LETTERS, (("put", "b", "a", "left"),)), ("weights", (1, 2, 1)), True)
        self.says(DIAMOND, ("weights", (4, 2, 3, 1)), True)
        self.says(DIAMOND, ("weights", (3, 2, 3, 1)), ("rule", 0))

    def test_rings(self):
        for row in [
            (), ("d",), ("a", "d"), ("c", "a"), ("a", "a"), ("ac",), ("",), (1,), (True,), (None,), (["a"],), (("a",),),
            ("a", "b", "c", "d"), ("A",), ("a", 1),
        ]:
            self.says(LOOSE, ("ring", row), ("letters", -1))
            self.says(BOOK, ("ring", row), ("letters", -1))
        for row, wanted in [
            (("a", "c"), False), (("a",), ("letter", 0)), (("c",), ("letter", 0)), (("b",), ("letter", 0)),
            (("a", "b"), ("letter", 0)), (("b", "c"), ("letter", 0)), (("a", "b", "c"), ("letter", 1)),
        ]:
            self.says(LOOSE, ("ring", row), wanted)
        self.says(BOOK, ("ring", ("b",)), ("letter", 0))
        self.says(BOOK, ("ring", ("a", "b")), ("letter", 0))
        self.says(NOTHING, ("ring", ()), ("letters", -1))
        self.says(NOTHING, ("ring", ("a",)), ("letters", -1))

    def test_rings_through_lower_rules_and_long_words(self):
        book = (LETTERS, (("put", "a", "cbc", "left"), ("lower", "left")))
        self.says(book, ("ring", ("a", "b")), False)
        self.says(book, ("ring", ("a", "b", "c")), ("letter", 2))
        self.says(book, ("ring", ("a",)), ("letter", 0))
        self.says((LETTERS, book[1][:1]), ("ring", ("a", "b")), ("letter", 1))
        self.says((LETTERS, (("put", "a", "aa", "right"),)), ("ring", ("a",)), False)

    def test_changed_papers(self):
        for book in (BOOK, LOOSE, GROWING, SIX, DIAMOND):
            word, told = ending_paper(book)
            for k, part in enumerate(told):
                front, behind = told[:k], told[k + 1:]
                self.says(book, (word, front + behind))
                self.says(book, (word, (*front, part, part, *behind)))
                for value in (*ODD_VALUES, "b", "c", "p", "z", 2, 3, 99):
                    self.says(book, (word, (*front, value, *behind)))
            self.says(book, (word, told[::-1]))
            self.says(book, ("ring" if word == "weights" else "weights", told))

    def test_consequences(self):
        for book in (BOOK, BACK, GROWING, SIX, DIAMOND):
            weights = dict(zip(names(book), least_weights(book)))
            for x in things_of(names(book), 3):
                for step in steps(book, x):
                    self.assertLess(sum(weights[letter] for letter in step), sum(weights[letter] for letter in x))
            paper = ending_paper(book)
            self.same(lets_ending(mirrored(book), paper), True)
            for k in range(len(book[1])):
                self.same(lets_ending(without_rule(book, k), paper), True)
        for x in things_of("abc", 3):
            if set(x) & {"a", "c"}:
                self.assertTrue(any(set(step) & {"a", "c"} for step in steps(LOOSE, x)))

    def test_arguments_by_name(self):
        self.same(lets_ending(thing=("weights", (1, 2, 1)), book=BOOK), True)

    def test_what_is_handed_in_does_not_change(self):
        given = ["weights", [1, 2, 1]]
        self.refused(InvalidPaper, {"word": "shape", "at": -1}, lets_ending, BOOK, given)
        self.refused(InvalidPaper, {"word": "weights", "at": -1}, lets_ending, BOOK, ("weights", (given, 1, 1)))
        self.refused(InvalidPaper, {"word": "letters", "at": -1}, lets_ending, BOOK, ("ring", (given,)))
        self.same(given, ["weights", [1, 2, 1]])


if __name__ == "__main__":
    unittest.main()
