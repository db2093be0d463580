"""Points [22], [34], [40], [41], [42], and (G2) in [9]: whether two books end alike by all rising tests."""

import itertools
import unittest

from firstfailing.completeness import finds_least
from firstfailing.errors import NotFalling
from firstfailing.partingchecker import lets_parting
from firstfailing.partings import alike_paper, parting_causes
from firstfailing.rankings import ranking_of
from tests.support import (
    BACK, BOOK, CHAIN, CHAIN_LETTERS, DIAMOND, DIAMOND_LETTERS, DROPS, HALVES, LETTERS, LOOSE, NO_LETTERS,
    NO_MANNERS, NO_RULES, NO_THINGS, NOTHING, PUTS, RULES, Case, at_most, is_falling_book, names, rising_tests,
    small_books, things_of, walk,
)
from tests.test_bookchecker import NO_PAIRS
from tests.test_bookclasses import NO_BOOKS
from tests.test_orderchecker import causes_at_most, contest_of
from tests.test_rankings import LOWERS

MANNERS = ("again", "on")
BOTH_MANNERS = list(itertools.product(MANNERS, repeat=2))
CALLS = (parting_causes, alike_paper)
FALLING_PUTS = (LETTERS, (("put", "b", "", "right"), ("half", "right"), ("drop", 1, "left"), ("put", "b", "a", "left")))
ABC_BOOKS = (BOOK, BACK, DROPS, HALVES, PUTS, NO_RULES, LOWERS, FALLING_PUTS)
EQUAL_LETTERS = [
    *itertools.product(ABC_BOOKS, repeat=2),
    (CHAIN, (CHAIN_LETTERS, (("put", "c", "a", "right"), ("lower", "left"), ("drop", 1, "right")))),
    (DIAMOND, (DIAMOND_LETTERS, (("drop", 1, "left"), ("lower", "right"), ("put", "p", "z", "left")))),
    (NOTHING, NO_LETTERS),
]


def parting(book, other, x, manner="again", other_manner="again"):
    """The first set of one or two causes by which the two end in unlike things."""
    for causes in causes_at_most(book, x):
        if contest_of(book, x, causes, manner) != contest_of(other, x, causes, other_manner):
            return causes
    return None


class Partings(Case):
    def check(self, book, other, x, manner="again", other_manner="again"):
        """The least causes, and a paper; both again with the books exchanged."""
        about = (book, other, x, manner, other_manner)
        wanted = parting(*about)
        told = parting_causes(book, other, x, manner=manner, other_manner=other_manner)
        self.same(told, wanted, about)
        self.same(parting_causes(other, book, x, manner=other_manner, other_manner=manner), told, about)
        paper = alike_paper(book, other, x, manner=manner, other_manner=other_manner)
        self.assertIs(type(paper), tuple)
        word, things = paper
        self.assertIs(type(things), tuple)
        self.same(word, "alike" if wanted is None else "causes", about)
        self.same(lets_parting(book, other, x, paper, manner=manner, other_manner=other_manner), wanted is None, about)
        if word == "causes":
            self.assertEqual(list(things), sorted(set(things)))
            self.assertTrue(things and set(things) <= at_most(book, x), about)
            ends = [
                walk(one, paper, x, way)[-1][0] for one, way in [(book, manner), (other, other_manner)]
            ]
            self.assertNotEqual(*ends)
        else:
            self.assertEqual(sorted(things), sorted(at_most(book, x)))
            for causes in causes_at_most(book, x):
                first = [thing for thing in things if set(causes) & at_most(book, thing)][0]
                self.same(contest_of(book, x, causes, manner), first)
                self.same(contest_of(other, x, causes, other_manner), first)

    def test_the_examples(self):
        self.same(
            [
                parting_causes(BOOK, BACK, "bc"), parting_causes(BOOK, DROPS, "bb"), parting_causes(BOOK, BACK, "bb"),
                parting_causes(HALVES, HALVES, "abc", other_manner="on"),
            ],
            [("a", "c"), ("a",), None, ("b", "c")],
        )

    def test_books_and_things(self):
        for book, other in EQUAL_LETTERS:
            for x in things_of(names(book), 2):
                for manner, other_manner in BOTH_MANNERS:
                    self.check(book, other, x, manner, other_manner)

    def test_longer_things(self):
        for book, other in itertools.combinations_with_replacement(ABC_BOOKS, 2):
            for x in ("abc", "bcb"):
                for manner, other_manner in BOTH_MANNERS:
                    self.check(book, other, x, manner, other_manner)

    def test_small_books(self):
        falling = [book for book in small_books(LETTERS, 1) if is_falling_book(book)]
        for book, other in itertools.combinations_with_replacement(falling, 2):
            for x, manner in [("cb", "again"), ("ab", "on"), ("bcb", "again")]:
                self.check(book, other, x, manner)

    def test_pairs_of_causes_tell_it_for_all_rising_tests(self):
        for book, other in itertools.combinations_with_replacement(ABC_BOOKS, 2):
            for x, (manner, other_manner) in itertools.product(("bc", "ab", "ca"), BOTH_MANNERS):
                parts = [
                    test for test in rising_tests(book, x)
                    if walk(book, test, x, manner)[-1][0] != walk(other, test, x, other_manner)[-1][0]
                ]
                told = parting_causes(book, other, x, manner=manner, other_manner=other_manner)
                self.assertEqual(told is None, parts == [], (book, other, x, manner, other_manner))

    def test_one_cause_comes_ahead_of_two(self):
        # As causes a and c part BOOK and DROPS, too, but so does a alone.
        self.check(BOOK, (LETTERS, (("half", "left"), ("drop", 1, "right"))), "bc")
        self.same(parting_causes(BOOK, DROPS, "bc"), ("a",))
        self.same(parting_causes(NO_RULES, DROPS, "bc"), ("",))
        self.same(parting_causes((LETTERS, (("drop", 1, "left"), ("empty",))), DROPS, "ab"), None)
        self.same(parting_causes((LETTERS, (("empty",), ("drop", 1, "left"))), DROPS, "ab", other_manner="on"), None)

    def test_one_book_with_two_manners(self):
        self.same(parting_causes(HALVES, HALVES, "abc", manner="on"), ("b", "c"))
        self.same(parting_causes(HALVES, HALVES, "abc", manner="on", other_manner="on"), None)
        for book in ABC_BOOKS:
            for x in things_of("abc", 3)[::3]:
                self.check(book, book, x, "again", "on")
                for manner in MANNERS:
                    self.same(parting_causes(book, book, x, manner=manner, other_manner=manner), None)

    def test_thirty_two_things(self):
        long = "a" * 31
        self.same(parting_causes(DROPS, BACK, long), None)
        self.same(alike_paper(DROPS, BOOK, long), ("alike", tuple("a" * k for k in range(32))))
        pair = ((("a", ()), ("b", ()), ("c", ()), ("d", ()), ("e", ())), (("drop", 1, "left"),))
        self.same(parting_causes(pair, (pair[0], (("drop", 1, "right"),)), "abcde"), ("a", "b"))


class Consequences(Case):
    def test_equal_rankings_end_alike(self):
        for book, other in itertools.product(ABC_BOOKS, repeat=2):
            for x, (manner, other_manner) in itertools.product(things_of("abc", 2), BOTH_MANNERS):
                equal = ranking_of(book, x, manner=manner) == ranking_of(other, x, manner=other_manner)
                alike = parting_causes(book, other, x, manner=manner, other_manner=other_manner) is None
                if equal:
                    self.assertTrue(alike)
                if finds_least(book, x, manner=manner) and finds_least(other, x, manner=other_manner):
                    self.assertEqual(alike, equal)


class Refused(Case):
    def test_wrong_books(self):
        for call in CALLS:
            for book in (BOOK, LOOSE):
                for value in (
                    *[row[:2] for row in NO_BOOKS], *NO_PAIRS, LOOSE, (LETTERS, (*BOOK[1], RULES[15])), DIAMOND, CHAIN, NOTHING, NO_LETTERS, (LETTERS[:2], ()),
                    ((("a", ()), ("b", ()), ("c", ())), BOOK[1]), ((*LETTERS, ("d", ())), BOOK[1]), [LETTERS, BOOK[1]],
                ):
                    self.unusable("other", call, book, value, "a")
                    self.unusable("other", call, book, value, None, manner=None, other_manner=None)

    def test_wrong_things(self):
        for call in CALLS:
            for book in (BOOK, LOOSE):
                for value in (*NO_THINGS, "d", "abd"):
                    self.unusable("x", call, book, BACK, value)
                    self.unusable("x", call, book, BACK, value, manner=None, other_manner=None)

    def test_wrong_manners(self):
        for call in CALLS:
            for book in (BOOK, LOOSE):
                for value in NO_MANNERS:
                    self.unusable("manner", call, book, BACK, "a", manner=value)
                    self.unusable("manner", call, book, BACK, "a", other_manner=value, manner=value)
                    self.unusable("other_manner", call, book, BACK, "a", other_manner=value)
                    self.unusable("other_manner", call, book, BACK, "a", manner="on", other_manner=value)

    def test_books_that_do_not_fall(self):
        for call in CALLS:
            for rules, r in [(LOOSE[1], 0), ((*BOOK[1], RULES[15]), 2), ((RULES[10], RULES[14], RULES[16]), 1)]:
                for manner, other_manner in BOTH_MANNERS:
                    given = ((LETTERS, rules), BOOK, "b")
                    self.refused(NotFalling, {"rule": r}, call, *given, manner=manner, other_manner=other_manner)

    def test_books_without_letters_or_rules(self):
        for book, other in itertools.product((NOTHING, NO_LETTERS), repeat=2):
            self.same([parting_causes(book, other, ""), alike_paper(book, other, "")], [None, ("alike", ("",))])
        self.same(parting_causes(NO_RULES, NO_RULES, "abc", manner="on"), None)

    def test_arguments_by_name(self):
        self.same(parting_causes(x="bc", other=BACK, book=BOOK), ("a", "c"))
        self.same(alike_paper(other_manner="on", manner="on", x="", other=BACK, book=BOOK), ("alike", ("",)))
        for call in CALLS:
            with self.assertRaises(TypeError):
                call(BOOK, BACK, "a", "on")

    def test_what_is_handed_in_does_not_change(self):
        given = [list(LETTERS), ["a"]]
        for call in CALLS:
            self.unusable("other", call, BOOK, given, given)
            self.unusable("x", call, BOOK, BACK, given)
        self.same(given, [list(LETTERS), ["a"]])


if __name__ == "__main__":
    unittest.main()
