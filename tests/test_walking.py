"""Points [7], [22], [28], [30], [49]: walks of shrinking by a test."""

import itertools
import unittest

from firstfailing.anyends import possible_ends, test_for, way_to
from firstfailing.asking import Asker
from firstfailing.walking import last_of, tries_of, walk_of
from tests.support import (
    BACK, BOOK, CHAIN, DIAMOND, DROPS, GROWING, HALVES, LETTERS, LOOSE, NO_BOOLS, NO_LETTERS, NO_MANNERS, NO_RULES,
    NO_TESTS, NO_THINGS, NOTHING, PUTS, RULES, SIX, Case, at_most, fails, has_ring, is_falling_book, last, names,
    only_tests, reached, rising_tests, small_books, steps, things_of, walk,
)

MANNERS = ("again", "on")
WAYS = [(manner, notes) for manner in MANNERS for notes in (False, True)]
CALLS = (walk_of, last_of, tries_of)
BOTH = ("causes", ("a", "c"))
UPWARD = (LETTERS, (("put", "a", "bc", "left"), ("half", "right"), ("put", "b", "cc", "right"), ("put", "c", "", "left")))
ENDING = (BOOK, BACK, DROPS, HALVES, PUTS, NO_RULES, CHAIN, DIAMOND, GROWING, SIX, UPWARD, NOTHING, NO_LETTERS)


def tests_for(book, x):
    """Tests of each of the four words by which x fails."""
    things = sorted(reached(book, x) | at_most(book, x))[:4]
    for many in range(3):
        for row in itertools.combinations(things, many):
            for word in ("causes", "only", "but"):
                for test in {(word, row), (word, tuple(sorted({*row, x})))}:
                    if fails(book, test, x):
                        yield test
    for many in range(len(book[0]) + 1):
        for row in itertools.combinations(names(book), many):
            if fails(book, ("has", row), x):
                yield ("has", row)


class Walks(Case):
    def check(self, book, test, x):
        """All three functions in each way."""
        for manner, notes in WAYS:
            wanted = walk(book, test, x, manner, notes)
            about = (book, test, x, manner, notes)
            self.same(walk_of(book, test, x, manner=manner, notes=notes), wanted, about)
            self.same(last_of(book, test, x, manner=manner, notes=notes), wanted[-1][0], about)
            self.same(tries_of(book, test, x, manner=manner, notes=notes), sum(row[1] for row in wanted), about)
        for call in CALLS:
            self.same(call(book, test, x), call(book, test, x, manner="again", notes=False))

    def test_the_examples(self):
        self.same(
            [walk_of(BOOK, BOTH, "bc"), walk_of(BACK, BOTH, "bc"), walk_of(BACK, BOTH, "bc", notes=True)],
            [(("bc", 1), ("c", 1)), (("bc", 1), ("b", 2), ("a", 1)), (("bc", 1), ("b", 2), ("a", 0))],
        )
        self.same(
            [walk_of(BOOK, ("causes", ("aa",)), "bb"), walk_of(BOOK, ("causes", ("aa",)), "bb", manner="on")],
            [(("bb", 2), ("ab", 3), ("aa", 1)), (("bb", 2), ("ab", 1), ("aa", 1))],
        )
        self.same(last_of(BOOK, test_for(BOOK, "bc", "ac"), "bc"), "ac")

    def test_books_and_tests_of_each_word(self):
        for book in ENDING:
            for x in things_of(names(book), 2):
                for test in tests_for(book, x):
                    self.check(book, test, x)

    def test_longer_things(self):
        for book, x in [(BOOK, "bcb"), (BACK, "bab"), (HALVES, "abcab"), (UPWARD, "aba"), (GROWING, "cc"), (SIX, "prp")]:
            for test in tests_for(book, x):
                self.check(book, test, x)

    def test_small_books(self):
        for book in small_books(LETTERS):
            if not has_ring(book):
                for x in ("", "cab"):
                    for test in [("but", ("", "a", "c")), ("causes", (x[:1], "a")), ("only", ("", "a", "ca", x))]:
                        if fails(book, (test[0], tuple(sorted(set(test[1])))), x):
                            self.check(book, (test[0], tuple(sorted(set(test[1])))), x)

    def test_beginnings_without_steps(self):
        for book, x in [(BOOK, ""), (NO_RULES, "abc"), (NOTHING, ""), (NO_LETTERS, ""), (PUTS, "c"), (CHAIN, "cba")]:
            test = ("only", (x,))
            for manner, notes in WAYS:
                if not steps(book, x):
                    self.same(walk_of(book, test, x, manner=manner, notes=notes), ((x, 0),))
                    self.same(last_of(book, test, x, manner=manner, notes=notes), x)
                    self.same(tries_of(book, test, x, manner=manner, notes=notes), 0)
        self.same(walk_of(BOOK, ("causes", ("",)), "a"), (("a", 1), ("", 0)))
        self.same(walk_of(BOOK, ("but", ("",)), "a"), (("a", 1),))

    def test_the_rule_that_led_goes_first_with_on(self):
        # bc came from abc by the second rule; with "on" its steps are those of this rule, and then the half.
        test = ("but", ("a", "ab", "b"))
        self.same(walk_of(HALVES, test, "abc"), (("abc", 2), ("bc", 2), ("c", 1), ("", 0)))
        self.same(walk_of(HALVES, test, "abc", manner="on"), (("abc", 2), ("bc", 1), ("c", 1), ("", 0)))
        # A step that two rules tell is that of the first in the order of the manner.
        book = (LETTERS, (("put", "b", "a", "left"), ("drop", 1, "left"), ("lower", "left")))
        for only in (("aab", "abb", "bbb"), ("aab", "aba", "abb", "bbb"), ("bab", "bbb", "bb", "aa")):
            for x in ("bbb",):
                self.check(book, ("only", tuple(sorted(only))), x)

    def test_notes_ask_nothing_again(self):
        test = ("causes", ("aa",))
        self.same(walk_of(BOOK, test, "bb", notes=True), (("bb", 2), ("ab", 2), ("aa", 0)))
        self.same(walk_of(BOOK, test, "bb", manner="on", notes=True), (("bb", 2), ("ab", 1), ("aa", 1)))

    def test_ways_end_where_they_are_to(self):
        for book, x in [(BOOK, "bcb"), (GROWING, "cb"), (UPWARD, "ab"), (SIX, "pr"), (DIAMOND, "pp")]:
            for z in possible_ends(book, x):
                self.same(last_of(book, test_for(book, x, z), x), z)
                self.same(last_of(book, ("only", tuple(sorted(way_to(book, x, z)))), x), z)

    def test_possible_ends_are_the_last_things_by_all_tests(self):
        for book, x in [(BOOK, "bc"), (UPWARD, "a"), (GROWING, "c"), (HALVES, "cab"), (SIX, "r")]:
            ends = {last_of(book, test, x) for test in only_tests(book, book, x)}
            self.same(possible_ends(book, x), tuple(sorted(ends)))

    def test_many_tries(self):
        long = "a" * 99
        self.same(tries_of(DROPS, ("causes", ("",)), long), 99)
        self.same(walk_of(DROPS, ("causes", ("a" * 3,)), long)[-1], ("aaa", 1))
        self.check(BOOK, ("causes", ("aac", "ca")), "bcbb")
        self.check(BOOK, ("has", ("b", "c")), "bcbb")


class Consequences(Case):
    def test_notes_change_no_thing_and_make_no_number_greater(self):
        for book in ENDING:
            for x in things_of(names(book), 2):
                for test, manner in itertools.product(tests_for(book, x), MANNERS):
                    bare = walk_of(book, test, x, manner=manner)
                    noted = walk_of(book, test, x, manner=manner, notes=True)
                    self.same([row[0] for row in noted], [row[0] for row in bare])
                    self.assertTrue(all(less[1] <= more[1] for less, more in zip(noted, bare)))

    def test_in_falling_books_each_thing_is_below_the_one_before(self):
        for book in (book for book in ENDING if is_falling_book(book)):
            for x in things_of(names(book), 2):
                for test, manner in itertools.product(tests_for(book, x), MANNERS):
                    rows = [row[0] for row in walk_of(book, test, x, manner=manner)]
                    for thing, step in zip(rows, rows[1:]):
                        self.assertIn(step, at_most(book, thing) - {thing})

    def test_most_tries_of_drops(self):
        for x in ("", "a", "ba", "cab", "dbca"):
            book = (tuple((letter, ()) for letter in sorted(x)), (("drop", 1, "left"),))
            n = len(x)
            self.assertEqual(
                max(tries_of(book, ("causes", (z,)), x) for z in at_most(book, x)), n + n * n // 4
            )
            if n < 4:
                self.assertEqual(max(tries_of(book, test, x) for test in rising_tests(book, x)), n + n * n // 4)
                self.assertEqual(max(tries_of(book, test, x) for test in only_tests(book, book, x)), n * (n + 1) // 2)

    def test_an_asker_that_is_answered_by_the_test_makes_the_walk(self):
        for book in ENDING:
            for x in things_of(names(book), 2):
                for test, (manner, notes) in itertools.product(tests_for(book, x), WAYS):
                    asker = Asker(book, x, manner=manner, notes=notes)
                    self.same(asker(test), last_of(book, test, x, manner=manner, notes=notes))
                    self.same(asker.walk_now, walk_of(book, test, x, manner=manner, notes=notes))
                    self.same(len(asker), tries_of(book, test, x, manner=manner, notes=notes))

    def test_steps_alone_are_gone_to(self):
        for test in tests_for(UPWARD, "ab"):
            rows = [row[0] for row in walk_of(UPWARD, test, "ab")]
            self.assertTrue(all(step in steps(UPWARD, thing) for thing, step in zip(rows, rows[1:])))
            self.same(rows[-1], last(UPWARD, test, "ab"))


class Refused(Case):
    def test_wrong_tests(self):
        for call in CALLS:
            for book in (BOOK, LOOSE):
                for value in (*NO_TESTS, ("causes", ("d",)), ("only", ("a", "zz")), ("has", ("d",)), ("but", ("d",))):
                    self.unusable("test", call, book, value, "a")
                    self.unusable("test", call, book, value, None, manner=None, notes=None)

    def test_wrong_things(self):
        for call in CALLS:
            for book in (BOOK, LOOSE):
                for value in (*NO_THINGS, "d", "abd"):
                    for test in (("but", ()), ("causes", ("",)), ("only", ("a",)), ("has", ("a",))):
                        self.unusable("x", call, book, test, value)
                        self.unusable("x", call, book, test, value, manner=None, notes=None)

    def test_things_that_do_not_fail(self):
        for call in CALLS:
            for book in (BOOK, LOOSE):
                for test, x in [
                    (("causes", ()), "a"), (("causes", ("b",)), "ac"), (("only", ("a",)), ""), (("but", ("", "bc")), "bc"),
                    (("has", ("b",)), "aac"), (("has", ()), "a"), (("only", ()), ""),
                ]:
                    self.unusable("x", call, book, test, x)
                    self.unusable("x", call, book, test, x, manner="left", notes=1)

    def test_wrong_manners_and_notes(self):
        for call in CALLS:
            for book in (BOOK, LOOSE):
                for value in NO_MANNERS:
                    self.unusable("manner", call, book, ("but", ()), "a", manner=value)
                    self.unusable("manner", call, book, ("but", ()), "a", manner=value, notes=value)
                for value in NO_BOOLS:
                    self.unusable("notes", call, book, ("but", ()), "a", notes=value)
                    self.unusable("notes", call, book, ("but", ()), "a", notes=value, manner="on")

    def test_books_that_do_not_end(self):
        for call in CALLS:
            for book in [LOOSE, (LETTERS, (("put", "a", "aa", "left"),)), (LETTERS, (RULES[14], RULES[9]))]:
                for x, (manner, notes) in itertools.product(("", "a", "cb"), WAYS):
                    self.not_ending(book, call, book, ("but", ()), x, manner=manner, notes=notes)

    def test_arguments_by_name(self):
        self.same(walk_of(x="c", test=("but", ()), book=BOOK), (("c", 1), ("", 0)))
        self.same(last_of(notes=True, x="c", manner="on", test=("but", ()), book=BOOK), "")
        self.same(tries_of(x="c", test=("but", ()), book=BOOK, notes=True), 1)
        for call in CALLS:
            with self.assertRaises(TypeError):
                call(BOOK, ("but", ()), "c", "on")

    def test_what_is_handed_in_does_not_change(self):
        given = ["a", ["b"]]
        for call in CALLS:
            self.unusable("test", call, BOOK, given, given)
            self.unusable("x", call, BOOK, ("but", ()), given)
            self.unusable("manner", call, BOOK, ("but", ()), "a", manner=given)
        self.same(given, ["a", ["b"]])


if __name__ == "__main__":
    unittest.main()
