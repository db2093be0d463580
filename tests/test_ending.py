"""Points [5], [22], [24]: whether shrinking ends, weights and rings."""

import itertools
import unittest

from firstfailing.ending import ending_paper, is_ending, least_weights
from tests.support import (
    BACK, BOOK, CHAIN, CHAIN_LETTERS, DIAMOND, DIAMOND_LETTERS, GROWING, LETTERS, LOOSE, NO_LETTERS, NO_RULES,
    NOTHING, SIX, Case, are_weights, has_ring, is_ring, names, small_books, steps, things_of,
)


def ring_books():
    """Books that are not ending, with what makes them so."""
    return [
        LOOSE,
        (LETTERS, (("put", "a", "aa", "left"),)),
        (LETTERS, (("put", "a", "ca", "right"),)),
        (LETTERS, (("put", "a", "b", "left"), ("lower", "right"))),
        (LETTERS, (("lower", "right"), ("put", "a", "cbc", "left"))),
        (LETTERS, (("put", "a", "b", "left"), ("put", "b", "c", "left"), ("put", "c", "a", "left"))),
        (LETTERS, (("put", "c", "acb", "left"),)),
        (CHAIN_LETTERS, (("put", "a", "c", "left"), ("lower", "left"))),
        (DIAMOND_LETTERS, (("put", "z", "r", "left"), ("lower", "left"))),
        (DIAMOND_LETTERS, (("empty",), ("put", "q", "pp", "left"), ("put", "z", "", "left"), ("lower", "right"))),
    ]


class Ending(Case):
    def test_the_examples(self):
        self.same([is_ending(BOOK), is_ending(LOOSE), least_weights(BOOK)], [True, False, (1, 2, 1)])
        self.same(least_weights((LETTERS, (("put", "c", "ab", "left"),))), (1, 1, 3))
        self.assertTrue(is_ring(LOOSE, ending_paper(LOOSE)[1]))
        self.assertEqual(ending_paper(LOOSE)[0], "ring")

    def test_small_books_by_all_sets_of_letters(self):
        for book in small_books(LETTERS):
            self.same(is_ending(book), not has_ring(book), book)

    def test_books_that_do_not_end(self):
        for book in ring_books():
            self.same(is_ending(book), False, book)

    def test_books_that_end(self):
        for book in [
            BOOK, BACK, NO_RULES, NOTHING, NO_LETTERS, CHAIN, DIAMOND, GROWING, SIX,
            (LETTERS, (("put", "a", "b", "left"),)),
            (LETTERS, (("put", "a", "b", "left"), ("put", "b", "cc", "left"), ("put", "c", "", "left"))),
            (LETTERS, (("put", "a", "cbc", "left"), ("put", "b", "c", "left"))),
            (DIAMOND_LETTERS, (("put", "z", "p", "left"), ("put", "p", "q", "left"))),
        ]:
            self.same(is_ending(book), True, book)

    def test_any_letters(self):
        for high in "bmxz":
            for low in "acx":
                if low < high:
                    letters = ((low, ()), (high, (low,)))
                    falls = (("put", high, "", "left"), ("put", high, low, "left"), ("lower", "left"))
                    self.same(is_ending((letters, falls)), True, letters)
                    self.same(least_weights((letters, falls)), (1, 2), letters)
                    self.same(is_ending((letters, (*falls, ("put", low, high, "right")))), False, letters)

    def test_a_ring_has_steps_that_keep_it(self):
        for book in ring_books():
            ring = set(ending_paper(book)[1])
            for x in things_of(names(book), 3):
                if ring & set(x):
                    self.assertTrue(any(ring & set(step) for step in steps(book, x)), (book, x))

    def test_lower_rules_count_only_where_the_book_has_one(self):
        upward = ("put", "a", "b", "left")
        self.same(is_ending((LETTERS, (upward,))), True)
        self.same(is_ending((LETTERS, (upward, ("drop", 1, "left")))), True)
        for side in ("left", "right"):
            self.same(is_ending((LETTERS, (upward, ("lower", side)))), False)
        self.same(least_weights((LETTERS, (upward,))), (2, 1, 1))
        self.same(least_weights(NO_RULES), (1, 1, 1))
        self.same(least_weights((LETTERS, (("empty",), ("lower", "right")))), (1, 2, 1))


class Weights(Case):
    def test_they_are_weights_and_none_can_be_less(self):
        for book in small_books(LETTERS):
            if has_ring(book):
                continue
            least = least_weights(book)
            self.assertIs(type(least), tuple)
            self.assertTrue(are_weights(book, least), book)
            for other in itertools.product(range(1, 6), repeat=3):
                if are_weights(book, other):
                    self.assertTrue(all(one <= two for one, two in zip(least, other)), (book, other))

    def test_by_hand(self):
        put = "put"
        for book, wanted in [
            (NOTHING, ()),
            (NO_LETTERS, ()),
            (CHAIN, (1, 1, 1)),
            ((CHAIN_LETTERS, (("lower", "left"),)), (1, 2, 3)),
            (DIAMOND, (4, 2, 3, 1)),
            ((LETTERS, ((put, "c", "", "left"),)), (1, 1, 1)),
            ((LETTERS, ((put, "c", "a", "left"),)), (1, 1, 2)),
            ((LETTERS, ((put, "c", "aaa", "left"),)), (1, 1, 4)),
            ((LETTERS, ((put, "c", "bab", "left"), ("lower", "left"))), (1, 2, 6)),
            ((LETTERS, ((put, "c", "b", "left"), (put, "c", "aa", "right"), ("lower", "left"))), (1, 2, 3)),
            ((LETTERS, ((put, "c", "aa", "left"), (put, "c", "b", "right"), ("lower", "left"))), (1, 2, 3)),
            ((LETTERS, ((put, "a", "bb", "left"), (put, "b", "ccc", "left"))), (9, 4, 1)),
            (GROWING, (1, 2, 4)),
            (SIX, (7, 2, 3, 1)),
        ]:
            self.same(least_weights(book), wanted, book)

    def test_large_weights(self):
        letters = tuple((letter, ()) for letter in "abcdefghijklmnopqrstuvwxyz")
        rules = tuple(("put", high, low * 100, "left") for low, high in zip("abcdefghijkl", "bcdefghijklm"))
        weights = least_weights((letters, rules))
        wanted = [1]
        for _ in rules:
            wanted.append(wanted[-1] * 100 + 1)
        self.same(weights, tuple(wanted + [1] * 13))

    def test_their_sum_falls_with_each_step(self):
        for book in (BOOK, GROWING, SIX, DIAMOND):
            of = dict(zip(names(book), least_weights(book)))
            for x in things_of(names(book), 3):
                for step in steps(book, x):
                    self.assertLess(sum(of[letter] for letter in step), sum(of[letter] for letter in x))

    def test_a_book_that_does_not_end_has_none(self):
        for book in ring_books():
            self.not_ending(book, least_weights, book)


class Papers(Case):
    def test_papers_of_small_books(self):
        for book in small_books(LETTERS):
            self.check(book)

    def test_papers_of_other_books(self):
        for book in [*ring_books(), NOTHING, NO_LETTERS, CHAIN, DIAMOND, GROWING, SIX]:
            self.check(book)

    def check(self, book):
        paper = ending_paper(book)
        self.assertIs(type(paper), tuple)
        word, told = paper
        self.assertIs(type(told), tuple)
        if has_ring(book):
            self.assertEqual(word, "ring")
            self.assertTrue(is_ring(book, told), (book, told))
        else:
            self.assertEqual(word, "weights")
            self.assertTrue(are_weights(book, told), (book, told))

    def test_arguments_by_name(self):
        self.same(is_ending(book=BOOK), True)
        self.same(least_weights(book=BOOK), (1, 2, 1))
        self.assertEqual(ending_paper(book=LOOSE)[0], "ring")


if __name__ == "__main__":
    unittest.main()
