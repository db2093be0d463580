"""Points [22], [48], [49], and (G5) in [9]: tests by which shrinking never ends."""

import itertools
import unittest

from firstfailing.ending import is_ending
from firstfailing.noends import endless_test
from tests.support import (
    BOOK, BOOKS, DIAMOND_LETTERS, LETTERS, LOOSE, NO_LETTERS, NO_RULES, NOTHING, RULES, Case, fails, has_ring, is_ring,
    names, small_books, steps, things_of, walk,
)

TRIES = 150


class Endless(Case):
    def check(self, book, x_most=2):
        """The result for a book, and that shrinking by it does not end."""
        told = endless_test(book)
        if not has_ring(book):
            self.same(told, None, book)
            return
        self.assertIs(type(told), tuple)
        letter, test = told
        self.assertIs(type(test), tuple)
        self.same(test[0], "has", book)
        self.assertTrue(is_ring(book, test[1]), (book, told))
        self.assertIn(letter, test[1])
        for manner in ("again", "on"):
            self.same(walk(book, test, letter, manner, most=TRIES), None, (book, told, manner))
        for thing in things_of(names(book), x_most):
            if fails(book, test, thing):
                self.assertTrue(any(fails(book, test, step) for step in steps(book, thing)), (book, told, thing))

    def test_the_examples(self):
        self.same([endless_test(BOOK), endless_test(LOOSE)[1]], [None, ("has", ("a", "c"))])
        self.assertIn(endless_test(LOOSE)[0], ("a", "c"))

    def test_books(self):
        for book in BOOKS:
            self.check(book)

    def test_small_books(self):
        for book in small_books(LETTERS):
            self.check(book, 1)

    def test_rings_of_one_letter(self):
        for word in ("aa", "ab", "ba", "cac"):
            book = (LETTERS, (("drop", 1, "left"), ("put", "a", word, "right")))
            self.check(book)
            self.same(endless_test(book), ("a", ("has", ("a",))))

    def test_rings_of_several_letters(self):
        puts = (("put", "a", "b", "left"), ("put", "b", "c", "left"), ("put", "c", "ba", "right"))
        for many in range(1, 4):
            for rules in itertools.permutations(puts, many):
                self.check((LETTERS, rules))
                self.check((LETTERS, (("lower", "right"), *rules)))
        self.same(endless_test((LETTERS, puts[1:]))[1], ("has", ("b", "c")))

    def test_rings_by_a_put_and_the_lower_rule_together(self):
        for side in ("left", "right"):
            book = (LETTERS, (("lower", side), ("put", "a", "b", "left")))
            self.check(book)
            self.same(endless_test(book)[1], ("has", ("a", "b")))
            self.check((DIAMOND_LETTERS, (("put", "z", "p", side), ("drop", 1, "left"), ("lower", side))))
        self.same(endless_test((LETTERS, (("put", "a", "b", "left"),))), None)
        self.same(endless_test((LETTERS, (("lower", "left"),))), None)

    def test_each_letter_of_a_ring_goes_on(self):
        book = (DIAMOND_LETTERS, (("put", "z", "q", "left"), ("lower", "left"), ("empty",), ("put", "q", "pp", "right")))
        _, test = endless_test(book)
        for letter in test[1]:
            for x in (letter, f"z{letter}", f"{letter}p"):
                for manner in ("again", "on"):
                    self.same(walk(book, test, x, manner, most=TRIES), None)

    def test_ending_books(self):
        for book in (NOTHING, NO_LETTERS, NO_RULES, BOOK):
            self.same(endless_test(book), None)
        for book in small_books(LETTERS, 1):
            self.assertEqual(endless_test(book) is None, is_ending(book))

    def test_arguments_by_name(self):
        self.same(endless_test(book=BOOK), None)


if __name__ == "__main__":
    unittest.main()
