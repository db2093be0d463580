"""Points [6], [7], [22], [47], [49]: where shrinking can end by tests of any kind."""

import unittest

from firstfailing.anyends import possible_ends, test_for, way_to
from firstfailing.walking import last_of
from tests.support import (
    BACK, BOOK, CHAIN, DIAMOND, DROPS, GROWING, HALVES, LETTERS, LOOSE, NO_LETTERS, NO_RULES, NO_THINGS, NOTHING,
    PUTS, RULES, SIX, WORDS_OF_TESTS, Case, fails, has_ring, last, names, only_tests, reached, small_books, steps,
    things_of,
)

ENDING = (BOOK, BACK, DROPS, HALVES, PUTS, NO_RULES, CHAIN, DIAMOND, GROWING, SIX, NOTHING, NO_LETTERS)


def is_right_test(test):
    """Whether it is a pair of a word and a set of things."""
    word, things = test
    return word in WORDS_OF_TESTS and type(things) is tuple and list(things) == sorted(set(things))


class Ends(Case):
    def check(self, book, x):
        """All three functions for x and each thing that could be an end."""
        ends = possible_ends(book, x)
        self.same(ends, tuple(sorted(reached(book, x))), (book, x))
        for z in sorted({*ends, *things_of(names(book), 2), x}):
            self.check_way(book, x, z, z in ends)

    def check_way(self, book, x, z, is_end):
        way = way_to(book, x, z)
        test = test_for(book, x, z)
        if not is_end:
            self.same((way, test), (None, None), (book, x, z))
            return
        self.assertIs(type(way), tuple)
        self.same((way[0], way[-1]), (x, z), (book, x, z))
        for thing, step in zip(way, way[1:]):
            self.assertIn(step, steps(book, thing))
        self.assertIs(type(test), tuple)
        self.assertTrue(is_right_test(test), test)
        self.assertTrue(fails(book, test, x))
        self.same(last(book, test, x), z, (book, x, z, test))

    def test_the_examples(self):
        self.same(
            [possible_ends(BOOK, "bc"), way_to(BOOK, "bc", "bc"), way_to(BOOK, "b", "c")],
            [("", "a", "ac", "b", "bc", "c"), ("bc",), None],
        )
        self.same(last_of(BOOK, test_for(BOOK, "bc", "ac"), "bc"), "ac")

    def test_books_and_their_short_things(self):
        for book in ENDING:
            for x in things_of(names(book), 2):
                self.check(book, x)

    def test_small_books(self):
        for book in small_books(LETTERS):
            if not has_ring(book):
                for x in ("", "b", "ca"):
                    self.check(book, x)

    def test_ends_are_those_of_all_tests_of_any_kind(self):
        for book, x in [
            (BOOK, "bc"), (BACK, "ab"), (DROPS, "abc"), (HALVES, "cab"), (PUTS, "bab"), (GROWING, "c"), (DIAMOND, "rr"),
            (SIX, "r"), (NO_RULES, "abc"), ((LETTERS, (RULES[14], RULES[16])), "a"),
        ]:
            ends = {last(book, test, x) for test in only_tests(book, book, x)}
            self.same(possible_ends(book, x), tuple(sorted(ends)), (book, x))

    def test_a_row_passes_by_things_that_are_no_steps(self):
        upward = (LETTERS, (("put", "a", "b", "left"), ("put", "b", "cc", "left"), ("put", "c", "", "left")))
        self.same(possible_ends(upward, "a"), ("", "a", "b", "c", "cc"))
        self.same(way_to(upward, "a", "c"), ("a", "b", "cc", "c"))
        self.same(way_to(upward, "b", "a"), None)
        self.same(test_for(upward, "b", "a"), None)

    def test_consequences(self):
        for book in ENDING:
            for x in things_of(names(book), 2):
                ends = possible_ends(book, x)
                self.assertIn(x, ends)
                for z in ends:
                    self.assertLessEqual(set(steps(book, z)), set(ends))
                    row = tuple(sorted(set(way_to(book, x, z))))
                    self.same(last(book, ("only", row), x), z)

    def test_hundred_things(self):
        long = "a" * 99
        self.same(possible_ends(DROPS, long), tuple("a" * k for k in range(100)))
        self.same(way_to(DROPS, long, "a" * 7), tuple("a" * k for k in range(99, 6, -1)))
        self.same(last(DROPS, test_for(DROPS, long, "a" * 7), long), "a" * 7)
        self.check(BOOK, "bbacb")
        self.check(DROPS, "abcabc")
        self.check(DIAMOND, "rrr")

    def test_arguments_by_name(self):
        self.same(possible_ends(x="b", book=BOOK), ("", "a", "b"))
        self.same(way_to(z="a", x="b", book=(LETTERS, (("lower", "left"),))), ("b", "a"))
        self.same(last(BOOK, test_for(z="a", x="b", book=BOOK), "b"), "a")

    def test_wrong_things(self):
        for value in (*NO_THINGS, "d", "abd"):
            self.unusable("x", possible_ends, BOOK, value)
            for call in (way_to, test_for):
                self.unusable("x", call, BOOK, value, "a")
                self.unusable("x", call, BOOK, value, value)
                self.unusable("z", call, BOOK, "a", value)

    def test_books_that_do_not_end(self):
        for book in [LOOSE, (LETTERS, (("put", "a", "aa", "left"),)), (LETTERS, (RULES[14], RULES[9]))]:
            for x in ("", "a", "bc"):
                self.not_ending(book, possible_ends, book, x)
                for z in ("", x, "b"):
                    self.not_ending(book, way_to, book, x, z)
                    self.not_ending(book, test_for, book, x, z)
            self.unusable("x", possible_ends, book, "d")
            for call in (way_to, test_for):
                self.unusable("x", call, book, None, "d")
                self.unusable("z", call, book, "a", "d")

    def test_what_is_handed_in_does_not_change(self):
        given = ["a"]
        self.unusable("x", possible_ends, BOOK, given)
        self.unusable("z", way_to, BOOK, "a", given)
        self.unusable("z", test_for, BOOK, "a", given)
        self.same(given, ["a"])


if __name__ == "__main__":
    unittest.main()
