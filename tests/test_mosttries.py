"""Points [22], [24], [50], [51], [52], and (G4) in [9]: how many tries shrinking makes at most."""

import itertools
import unittest

from firstfailing.errors import NotFalling
from firstfailing.mosttries import most_test, most_tries, most_tries_rising, tries_bound
from firstfailing.walking import tries_of
from tests.support import (
    BACK, BOOK, CHAIN, CHAIN_LETTERS, DIAMOND, DIAMOND_LETTERS, DROPS, GROWING, HALVES, LETTERS, LOOSE, NO_BOOLS,
    NO_LETTERS, NO_MANNERS, NO_RULES, NO_THINGS, NOTHING, PUTS, RULES, SIX, WORDS_OF_TESTS, Case, are_weights, at_most,
    fails, has_ring, is_falling_book, names, only_tests, reached, rising_tests, small_books, steps, things_of, walk,
)
from tests.test_rankings import FALLING

MANNERS = ("again", "on")
WAYS = [(manner, notes) for manner in MANNERS for notes in (False, True)]
UPWARD = (LETTERS, (("put", "a", "bc", "left"), ("half", "right"), ("put", "b", "cc", "right"), ("put", "c", "", "left")))
ENDING = (BOOK, BACK, DROPS, HALVES, PUTS, NO_RULES, CHAIN, DIAMOND, GROWING, SIX, UPWARD, NOTHING, NO_LETTERS)
FEW = 8


def tries(book, test, x, manner="again", notes=False):
    """All tries of shrinking from x by a test."""
    return sum(row[1] for row in walk(book, test, x, manner, notes))


def most_of_all(book, x):
    """The most tries, over all tests of any kind."""
    return max(tries(book, test, x) for test in only_tests(book, book, x))


def least_of(book):
    """The weights of which each is the least that it can be, by going up from 1."""
    weights = {letter: 1 for letter in names(book)}
    while not are_weights(book, tuple(weights.values())):
        for letter in names(book):
            for k in range(len(book[1])):
                one = (book[0], book[1][k:k + 1])
                puts = [one[1][0][2]] if one[1][0][0] == "put" and one[1][0][1] == letter else []
                puts += dict(book[0])[letter] if one[1][0][0] == "lower" else []
                for word in puts:
                    weights[letter] = max(weights[letter], 1 + sum(weights[given] for given in word))
    return weights


def bound(book, x):
    """The sum of S(w) for w from 0 to W, as [50] writes it."""
    weights = least_of(book)
    total = 0
    for w in range(sum(weights[letter] for letter in x) + 1):
        for rule in book[1]:
            if rule[0] == "drop":
                total += max(w - rule[1] + 1, 0)
            elif rule[0] in ("half", "empty"):
                total += 1
            elif rule[0] == "put":
                total += w
            else:
                total += w * max([len(lessers) for _, lessers in book[0]] + [0])
    return total


class Most(Case):
    def check(self, book, x):
        """The most tries by tests of any kind, a test for them, and the bound."""
        most = most_tries(book, x)
        self.same(most, most_of_all(book, x), (book, x))
        test = most_test(book, x)
        self.assertIs(type(test), tuple)
        word, things = test
        self.assertIn(word, WORDS_OF_TESTS)
        self.assertIs(type(things), tuple)
        self.assertEqual(list(things), sorted(set(things)))
        self.assertTrue(set("".join(things)) <= set(names(book)))
        self.assertTrue(fails(book, test, x), (book, x, test))
        self.same(tries(book, test, x), most, (book, x, test))
        self.same(tries_bound(book, x), bound(book, x), (book, x))
        self.assertGreaterEqual(tries_bound(book, x), most)
        self.assertGreaterEqual(most, len(steps(book, x)))

    def test_the_examples(self):
        self.same(
            [
                most_tries(BOOK, "bc"), most_tries_rising(BOOK, "bc"), most_tries_rising(BOOK, "bc", notes=True),
                tries_bound(BOOK, "bc"),
            ],
            [6, 5, 4, 12],
        )
        self.same(tries_of(BOOK, most_test(BOOK, "bc"), "bc"), 6)
        self.same(walk(BOOK, ("only", ("a", "ac", "bc")), "bc"), (("bc", 3), ("ac", 2), ("a", 1)))

    def test_books_and_things(self):
        for book in ENDING:
            for x in things_of(names(book), 3):
                if len(reached(book, x)) <= FEW:
                    self.check(book, x)

    def test_longer_things(self):
        checked = 0
        for book, x in [
            (BOOK, "bc"), (DROPS, "abc"), (DROPS, "aaaaaaa"), (HALVES, "aaaaaa"), (GROWING, "c"), (UPWARD, "a"), (UPWARD, "cccc"),
            (SIX, "rzz"), (DIAMOND, "pzzz"), ((LETTERS, (("drop", 2, "right"), ("empty",), ("lower", "left"))), "acbc"),
        ]:
            if len(reached(book, x)) <= 10:
                checked += 1
                self.check(book, x)
        self.assertGreaterEqual(checked, 7)

    def test_small_books(self):
        for book in small_books(LETTERS):
            if not has_ring(book):
                for x in ("", "b", "ac", "cc"):
                    if len(reached(book, x)) <= 6:
                        self.check(book, x)

    def test_what_passed_once_cannot_be_gone_to(self):
        # What is asked from one thing and passes is asked again from a later one, and has to pass there, too.
        book = (LETTERS, (("put", "a", "c", "left"), ("half", "left"), ("put", "a", "b", "left"), ("drop", 1, "right")))
        for x in ("a", "aa", "ab", "ba"):
            self.check(book, x)

    def test_most_tries_of_drops(self):
        for x, most in [("", 0), ("a", 1), ("ba", 3), ("cab", 6), ("dcba", 10), ("abcde", 15)]:
            book = (tuple((letter, ()) for letter in sorted(x)), (("drop", 1, "left"),))
            self.same(most_tries(book, x), most)
            n = len(x)
            self.same(most_tries_rising(book, x), n + n * n // 4)


class Bounds(Case):
    def test_each_kind_of_rule(self):
        for rule, wanted in [
            (("drop", 1, "left"), 10), (("drop", 2, "left"), 6), (("drop", 3, "right"), 3), (("drop", 4, "right"), 1),
            (("drop", 5, "right"), 0), (("drop", 9, "left"), 0), (("drop", 10 ** 50, "left"), 0), (("half", "left"), 5), (("half", "right"), 5),
            (("empty",), 5), (("put", "a", "", "left"), 10), (("put", "a", "", "right"), 10),
        ]:
            book = (LETTERS, (rule,))
            self.same(tries_bound(book, "aacc"), wanted, rule)
            self.same(tries_bound((LETTERS, (rule, ("half", "left"), rule)), "aacc"), 2 * wanted + 5)
        # The letters weigh 1, 2, 1 by the lower rule, and b has one lesser letter.
        self.same(tries_bound((LETTERS, (("lower", "left"),)), "abc"), 10)
        self.same(tries_bound((CHAIN_LETTERS, (("lower", "left"),)), "c"), 12)
        self.same(tries_bound((DIAMOND_LETTERS, (("lower", "left"), ("put", "z", "", "left"))), "p"), 10 * 2 + 10)
        self.same(tries_bound((LETTERS, (("put", "c", "ab", "left"), ("put", "b", "aaa", "left"))), "c"), 2 * 21)

    def test_books_and_things(self):
        for book in (*ENDING, *[book for book in small_books(LETTERS) if not has_ring(book)]):
            for x in things_of(names(book), 1) + [letter * 6 for letter in names(book)]:
                self.same(tries_bound(book, x), bound(book, x), (book, x))

    def test_no_letters_and_no_rules(self):
        self.same([tries_bound(NOTHING, ""), tries_bound(NO_RULES, "abc"), tries_bound(NO_LETTERS, "")], [0, 0, 2])
        self.same(tries_bound(((), (("lower", "left"), ("drop", 1, "left"))), ""), 0)
        self.same([most_tries(NOTHING, ""), most_tries(NO_RULES, "abc"), most_tries(NO_LETTERS, "")], [0, 0, 0])
        self.same([most_test(NOTHING, "")[0], fails(NOTHING, most_test(NOTHING, ""), "")], ["only", True])
        self.same([most_tries_rising(NOTHING, ""), most_tries_rising(NO_RULES, "abc")], [0, 0])

    def test_it_is_as_it_is_for_all_things_with_the_same_sum(self):
        for book in (BOOK, GROWING, SIX, UPWARD):
            weights = least_of(book)
            bounds = {}
            for x in things_of(names(book), 3):
                bounds.setdefault(sum(weights[letter] for letter in x), set()).add(tries_bound(book, x))
            self.assertTrue(all(len(row) == 1 for row in bounds.values()))


class Rising(Case):
    def check(self, book, x, all_tests):
        """The most tries in each way, by all rising tests or by those of one cause."""
        for manner, notes in WAYS:
            rows = rising_tests(book, x) if all_tests else [("causes", (z,)) for z in sorted(at_most(book, x))]
            wanted = max(tries(book, test, x, manner, notes) for test in rows)
            self.same(most_tries_rising(book, x, manner=manner, notes=notes), wanted, (book, x, manner, notes))
        self.same(most_tries_rising(book, x), most_tries_rising(book, x, manner="again", notes=False))

    def test_all_rising_tests(self):
        for book in FALLING:
            for x in things_of(names(book), 2):
                if len(at_most(book, x)) <= FEW:
                    self.check(book, x, True)
        for book, x in [(BOOK, "bc"), (HALVES, "abc"), (DROPS, "cab"), (BACK, "aab"), (PUTS, "acb")]:
            if len(at_most(book, x)) <= 12:
                self.check(book, x, True)

    def test_small_books(self):
        for book in small_books(LETTERS):
            if is_falling_book(book):
                self.check(book, "bc", True)

    def test_single_causes(self):
        for book, x in [(BOOK, "bcb"), (BACK, "bcab"), (HALVES, "abcab"), (PUTS, "cabb"), (DIAMOND, "prz")]:
            self.check(book, x, False)

    def test_many_things(self):
        long = "a" * 99
        self.same(most_tries_rising(DROPS, long), 99)
        self.same(most_tries_rising(DROPS, long, manner="on", notes=True), 99)

    def test_relations(self):
        for book in FALLING:
            for x in things_of(names(book), 2):
                if len(reached(book, x)) <= FEW:
                    self.assertLessEqual(most_tries_rising(book, x), most_tries(book, x))
                for manner in MANNERS:
                    bare = most_tries_rising(book, x, manner=manner)
                    noted = most_tries_rising(book, x, manner=manner, notes=True)
                    self.assertTrue(len(steps(book, x)) <= noted <= bare, (book, x, manner))

    def test_as_many_tries_as_by_the_thing_it_ends_in(self):
        for book, x in [(BOOK, "bc"), (BACK, "bc"), (HALVES, "abc"), (DROPS, "bca"), (PUTS, "ab")]:
            for test, (manner, notes) in itertools.product(rising_tests(book, x), WAYS):
                rows = walk(book, test, x, manner, notes)
                self.same(tries(book, ("causes", (rows[-1][0],)), x, manner, notes), sum(row[1] for row in rows))


class Refused(Case):
    def test_wrong_things(self):
        for book in (BOOK, LOOSE):
            for value in (*NO_THINGS, "d", "abd"):
                for call in (most_tries, most_test, tries_bound, most_tries_rising):
                    self.unusable("x", call, book, value)
                self.unusable("x", most_tries_rising, book, value, manner=None, notes=None)

    def test_wrong_manners_and_notes(self):
        for book in (BOOK, LOOSE):
            for value in NO_MANNERS:
                self.unusable("manner", most_tries_rising, book, "a", manner=value)
                self.unusable("manner", most_tries_rising, book, "a", manner=value, notes=value)
            for value in NO_BOOLS:
                self.unusable("notes", most_tries_rising, book, "a", notes=value)
                self.unusable("notes", most_tries_rising, book, "a", notes=value, manner="on")

    def test_books_that_do_not_end(self):
        for book in [LOOSE, (LETTERS, (("put", "a", "aa", "left"),)), (LETTERS, (RULES[14], RULES[9]))]:
            for call in (most_tries, most_test, tries_bound):
                for x in ("", "a", "bc"):
                    self.not_ending(book, call, book, x)

    def test_books_that_do_not_fall(self):
        for rules, r in [(LOOSE[1], 0), (GROWING[1], 0), ((*BOOK[1], RULES[15]), 2), ((RULES[10], RULES[14]), 1)]:
            for x, (manner, notes) in itertools.product(("", "bc"), WAYS):
                self.refused(NotFalling, {"rule": r}, most_tries_rising, (LETTERS, rules), x, manner=manner, notes=notes)

    def test_arguments_by_name(self):
        self.same([most_tries(x="c", book=BOOK), tries_bound(x="c", book=BOOK)], [1, 2])
        self.same(fails(BOOK, most_test(x="c", book=BOOK), "c"), True)
        self.same(most_tries_rising(notes=True, x="c", manner="on", book=BOOK), 1)
        with self.assertRaises(TypeError):
            most_tries_rising(BOOK, "c", "on")

    def test_what_is_handed_in_does_not_change(self):
        given = ["a", ["b"]]
        for call in (most_tries, most_test, tries_bound, most_tries_rising):
            self.unusable("x", call, BOOK, given)
        self.same(given, ["a", ["b"]])


if __name__ == "__main__":
    unittest.main()
