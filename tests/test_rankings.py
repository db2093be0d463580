"""Points [7], [8], [22], [34], [35], [36], and (G1) in [9]: rankings."""

import itertools
import unittest

from firstfailing.errors import NotFalling
from firstfailing.rankings import first_failing, place_in_ranking, ranking_of
from tests.support import (
    BACK, BOOK, CHAIN, CHAIN_LETTERS, DIAMOND, DROPS, HALVES, LETTERS, LOOSE, NO_LETTERS, NO_MANNERS, NO_RULES,
    NO_TESTS, NO_THINGS, NOTHING, PUTS, RULES, Case, at_most, fails, is_falling_book, names, ranking, reached,
    rising_tests, small_books, steps, things_of, walk,
)

LOWERS = (LETTERS, (("lower", "right"), ("half", "left"), ("lower", "left"), ("drop", 2, "right"), ("drop", 1, "left")))
FALLING = (
    BOOK, BACK, DROPS, HALVES, PUTS, NO_RULES, CHAIN, DIAMOND, LOWERS, NOTHING, NO_LETTERS,
    (CHAIN_LETTERS, (("put", "c", "a", "right"), ("lower", "left"), ("half", "right"), ("drop", 1, "right"))),
)
MANNERS = ("again", "on")


class Rankings(Case):
    def test_the_examples(self):
        self.same(
            [ranking_of(BOOK, "bc"), place_in_ranking(BOOK, "bc", "ac"), place_in_ranking(BACK, "bc", "a")],
            [("", "c", "a", "b", "ac", "bc"), 4, 1],
        )
        self.same(
            [ranking_of(HALVES, "abc"), ranking_of(HALVES, "abc", manner="on")],
            [("", "a", "b", "c", "bc", "ac", "ab", "abc"), ("", "a", "c", "b", "bc", "ac", "ab", "abc")],
        )
        test = ("causes", ("b", "c"))
        self.same([first_failing(HALVES, test, "abc"), first_failing(HALVES, test, "abc", manner="on")], ["b", "c"])
        self.refused(NotFalling, {"rule": 0}, ranking_of, LOOSE, "a")

    def check(self, book, x):
        for manner in MANNERS:
            rows = ranking_of(book, x, manner=manner)
            self.same(rows, ranking(book, x, manner), (book, x, manner))
            self.same(set(rows), reached(book, x))
            for z in at_most(book, x):
                wanted = rows.index(z) if z in rows else None
                self.same(place_in_ranking(book, x, z, manner=manner), wanted)

    def test_books_and_things(self):
        for book in FALLING:
            for x in things_of(names(book), 3):
                self.check(book, x)

    def test_small_books(self):
        for book in small_books(LETTERS):
            if is_falling_book(book):
                for x in ("", "b", "cb", "bab"):
                    self.check(book, x)

    def test_longer_things(self):
        for book, x in [(BOOK, "bcba"), (HALVES, "abcabc"), (LOWERS, "bbbc"), (BACK, "bbbb")]:
            self.check(book, x)
        for manner in MANNERS:
            self.same(ranking_of(DROPS, "a" * 99, manner=manner), tuple("a" * k for k in range(100)))

    def test_shrinking_ends_in_the_first_failing_thing(self):
        for book, x in [(BOOK, "bc"), (BACK, "bb"), (HALVES, "abc"), (PUTS, "ab"), (LOWERS, "bb"), (DIAMOND, "r")]:
            for test, manner in itertools.product(rising_tests(book, x), MANNERS):
                end = walk(book, test, x, manner)[-1][0]
                self.same(first_failing(book, test, x, manner=manner), end, (book, x, test, manner))

    def test_first_failing_by_tests_of_any_kind(self):
        for word, things in [("only", ("a", "bc", "c")), ("but", ("", "c")), ("has", ("b",)), ("but", ())]:
            for manner in MANNERS:
                wanted = [thing for thing in ranking(BOOK, "bc", manner) if fails(BOOK, (word, things), thing)][0]
                self.same(first_failing(BOOK, (word, things), "bc", manner=manner), wanted)

    def test_consequences(self):
        for book in FALLING:
            for x, manner in itertools.product(things_of(names(book), 2), MANNERS):
                rows = ranking_of(book, x, manner=manner)
                self.assertEqual(rows[-1], x)
                self.assertEqual(steps(book, rows[0]), [])
                for k, thing in enumerate(rows):
                    self.assertTrue(all(step in rows[:k] for step in steps(book, thing)))

    def test_arguments_by_name(self):
        self.same(ranking_of(manner="on", x="c", book=BOOK), ("", "c"))
        self.same(place_in_ranking(z="c", x="c", book=BOOK), 1)
        self.same(first_failing(x="c", test=("but", ()), book=BOOK), "")
        for call in (lambda: ranking_of(BOOK, "c", "on"), lambda: place_in_ranking(BOOK, "c", "c", "on")):
            with self.assertRaises(TypeError):
                call()

    def test_wrong_arguments(self):
        for book in (BOOK, LOOSE):
            for value in (*NO_THINGS, "d", "abd"):
                self.unusable("x", ranking_of, book, value)
                self.unusable("x", ranking_of, book, value, manner=None)
                self.unusable("x", place_in_ranking, book, value, value)
                self.unusable("z", place_in_ranking, book, "bc", value)
                self.unusable("z", place_in_ranking, book, "bc", value, manner=None)
                for test in [("but", ()), ("causes", ("a",)), ("only", ()), ("has", ("b",))]:
                    self.unusable("x", first_failing, book, test, value, manner=None)
            for z in ("cb", "bb", "bcb", "cc"):
                self.unusable("z", place_in_ranking, book, "bc", z)
            for value in NO_MANNERS:
                self.unusable("manner", ranking_of, book, "a", manner=value)
                self.unusable("manner", place_in_ranking, book, "a", "a", manner=value)
                self.unusable("manner", first_failing, book, ("but", ()), "a", manner=value)
            for value in NO_TESTS:
                self.unusable("test", first_failing, book, value, None)
            self.unusable("x", first_failing, book, ("causes", ("b",)), "a")
            self.unusable("x", first_failing, book, ("causes", ()), "a", manner=None)

    def test_books_that_do_not_fall(self):
        for rules, r in [(LOOSE[1], 0), ((*BOOK[1], RULES[15]), 2), ((RULES[10], RULES[14], RULES[16]), 1)]:
            book = (LETTERS, rules)
            self.refused(NotFalling, {"rule": r}, ranking_of, book, "")
            self.refused(NotFalling, {"rule": r}, place_in_ranking, book, "b", "a", manner="on")
            self.refused(NotFalling, {"rule": r}, first_failing, book, ("but", ()), "b")


if __name__ == "__main__":
    unittest.main()
