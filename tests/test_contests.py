"""Points [8], [22], [34], [37], [38], [39], and (G1), (G2) in [9]: contests of two causes."""

import itertools
import unittest

from firstfailing.contests import contest, order_by_contests, wins_of
from firstfailing.errors import NotFalling
from firstfailing.rankings import ranking_of
from tests.support import (
    BACK, BOOK, CHAIN, CHAIN_LETTERS, DIAMOND, DROPS, HALVES, LETTERS, LOOSE, NO_LETTERS, NO_MANNERS, NO_RULES,
    NO_THINGS, NOTHING, PUTS, RULES, Case, at_most, fails, is_falling_book, names, rising_tests, small_books, things_of,
    walk,
)
from tests.test_rankings import FALLING, LOWERS

MANNERS = ("again", "on")


def contest_of(book, x, a, b, manner="again"):
    """The contest, as [8] says it."""
    return walk(book, ("causes", tuple(sorted({a, b}))), x, manner)[-1][0]


class Contests(Case):
    def test_the_examples(self):
        self.same(
            [contest(BOOK, "bc", "a", "c"), contest(BACK, "bc", "a", "c"), wins_of(BOOK, "bc", "c"), wins_of(BACK, "bc", "c")],
            ["c", "a", ("a", "ac", "b", "bc"), ("ac", "bc")],
        )
        self.same(
            [contest(DROPS, "bb", "a", "ab"), contest(DROPS, "bb", "ab", "ab"), wins_of(DROPS, "bb", "a")],
            ["b", "bb", ()],
        )

    def check(self, book, x, manner):
        """All contests of things at most x, what wins, and the order that they make."""
        things = sorted(at_most(book, x))
        of = {(a, b): contest_of(book, x, a, b, manner) for a in things for b in things}
        for (a, b), wanted in of.items():
            self.same(contest(book, x, a, b, manner=manner), wanted, (book, x, a, b, manner))
        for a in things:
            wanted = tuple(b for b in things if b != a and of[a, b] == a)
            self.same(wins_of(book, x, a, manner=manner), wanted, (book, x, a, manner))
        order = order_by_contests(book, x, manner=manner)
        self.assertIs(type(order), tuple)
        self.assertEqual(sorted(order), things)
        for (a, b), wanted in of.items():
            first = [thing for thing in order if {a, b} & at_most(book, thing)][0]
            self.same(first, wanted, (book, x, a, b, manner, order))

    def test_books_and_things(self):
        for book in FALLING:
            for x, manner in itertools.product(things_of(names(book), 2), MANNERS):
                self.check(book, x, manner)

    def test_longer_things(self):
        for book, x in [(BOOK, "bcb"), (BACK, "cab"), (HALVES, "abca"), (PUTS, "bab"), (DROPS, "bca"), (LOWERS, "bbc")]:
            for manner in MANNERS:
                self.check(book, x, manner)

    def test_small_books(self):
        for book in small_books(LETTERS, 1):
            if is_falling_book(book):
                for x, manner in itertools.product(("c", "cb", "bab"), MANNERS):
                    self.check(book, x, manner)

    def test_contests_that_end_in_neither_of_the_two(self):
        self.same(contest(DROPS, "bb", "a", "ab"), "b")
        self.same(contest(NO_RULES, "abc", "", "c"), "abc")
        self.same(contest(PUTS, "ca", "a", "c"), "c")
        self.same(contest(PUTS, "ca", "a", "ca"), "ca")
        self.same(contest((LETTERS, (("drop", 2, "left"),)), "cab", "a", "b"), "b")
        self.same(contest((LETTERS, (("drop", 2, "left"),)), "cab", "ca", "ab"), "cab")

    def test_equal_and_comparable_things_in_either_order(self):
        for a, b in [("a", "a"), ("a", "b"), ("b", "a"), ("", "bc"), ("bc", ""), ("ac", "c"), ("c", "ac")]:
            least = a if a in at_most(BOOK, b) else b
            self.same(contest(BOOK, "bc", a, b), least)
            self.same(contest(BOOK, "bc", a, b), contest(BOOK, "bc", least, least))
        for book, x in [(DROPS, "bcb"), (HALVES, "abc"), (BACK, "cbb")]:
            for a, b, manner in itertools.product(sorted(at_most(book, x)), sorted(at_most(book, x)), MANNERS):
                wanted = contest(book, x, b, a, manner=manner)
                self.same(contest(book, x, a, b, manner=manner), wanted)
                if a in at_most(book, b):
                    self.same(wanted, contest(book, x, a, a, manner=manner))

    def test_manners_part(self):
        self.same([contest(HALVES, "abc", "b", "c", manner=manner) for manner in MANNERS], ["b", "c"])
        self.same(["c" in wins_of(HALVES, "abc", "b", manner=manner) for manner in MANNERS], [True, False])
        self.same(["b" in wins_of(HALVES, "abc", "c", manner=manner) for manner in MANNERS], [False, True])

    def test_the_ranking_and_all_other_things_are_an_order(self):
        for book, x in [(DROPS, "bcb"), (NO_RULES, "bc"), (PUTS, "cab")]:
            for manner in MANNERS:
                rows = ranking_of(book, x, manner=manner)
                self.same(set(order_by_contests(book, x, manner=manner)) - set(rows), at_most(book, x) - set(rows))
        self.same(order_by_contests(NO_RULES, "")[0], "")
        self.same(order_by_contests(NO_RULES, "ab")[0], "ab")

    def test_consequences_in_complete_books(self):
        complete = (LETTERS, (("half", "right"), ("lower", "right"), ("drop", 1, "right")))
        for book, x in [(BOOK, "bcb"), (BACK, "cab"), (complete, "bac")]:
            for manner in MANNERS:
                things = sorted(at_most(book, x))
                beats = {a: wins_of(book, x, a, manner=manner) for a in things}
                for a, b in itertools.combinations(things, 2):
                    self.assertIn(contest(book, x, a, b, manner=manner), (a, b))
                    self.assertNotEqual(b in beats[a], a in beats[b])
                for a in things:
                    for b in beats[a]:
                        self.assertTrue(all(c in beats[a] for c in beats[b]))

    def test_shrinking_ends_in_the_first_failing_thing_of_the_order(self):
        for book, x in [(BOOK, "bc"), (DROPS, "bb"), (HALVES, "abc"), (PUTS, "ab"), (DIAMOND, "r")]:
            for manner in MANNERS:
                order = order_by_contests(book, x, manner=manner)
                for test in rising_tests(book, x):
                    first = [thing for thing in order if fails(book, test, thing)][0]
                    self.same(first, walk(book, test, x, manner)[-1][0])

    def test_what_drops_alone_find(self):
        letters = tuple((letter, ()) for letter in "abc")
        for x in ("abc", "abab", "aabc", "cacb"):
            spread = {thing: far(x, thing, "right") for thing in at_most((letters, ()), x)}
            near = {thing: far(x, thing, "left") for thing in at_most((letters, ()), x)}
            for test in [("causes", row) for row in itertools.combinations(sorted(spread), 2)]:
                least = [u for u in test[1] if not any(v != u and v in at_most((letters, ()), u) for v in test[1])]
                for side, wanted in [
                    ("left", max(least, key=lambda thing: spread[thing])),
                    ("right", min(least, key=lambda thing: near[thing][::-1])),
                ]:
                    book = (letters, (("drop", 1, side),))
                    if len(least) == 2:
                        self.same(contest(book, x, *least), wanted, (x, test, side))

    def test_books_without_letters_or_rules(self):
        for book in (NOTHING, NO_LETTERS, NO_RULES):
            self.same([contest(book, "", "", ""), wins_of(book, "", ""), order_by_contests(book, "")], ["", (), ("",)])
        self.same(wins_of(NO_RULES, "b", "b"), ("", "a"))
        self.same(wins_of(NO_RULES, "b", "a"), ())

    def test_many_things(self):
        long = "a" * 31
        self.same(wins_of(DROPS, long, "aa"), tuple("a" * k for k in range(3, 32)))
        self.same(order_by_contests(DROPS, long), tuple("a" * k for k in range(32)))
        self.same(contest(DROPS, "a" * 99, "a" * 7, "a" * 50), "a" * 7)
        order = order_by_contests(DROPS, "bbbacc")
        self.assertEqual(sorted(order), sorted(at_most(DROPS, "bbbacc")))


def far(x, thing, side):
    """The places of the letters of a thing in x, each taken as far to this side as can be."""
    places, left = [], list(enumerate(x))
    for letter in thing[::-1] if side == "right" else thing:
        row = left[::-1] if side == "right" else left
        place = [k for k, other in row if other == letter][0]
        places.append(place)
        left = [pair for pair in left if (pair[0] < place if side == "right" else pair[0] > place)]
    return places[::-1] if side == "right" else places


class Refused(Case):
    def test_wrong_things(self):
        for book in (BOOK, LOOSE):
            for value in (*NO_THINGS, "d", "abd"):
                self.unusable("x", contest, book, value, "a", "a")
                self.unusable("x", contest, book, value, value, value, manner=None)
                self.unusable("a", contest, book, "bc", value, "a")
                self.unusable("a", contest, book, "bc", value, value, manner=None)
                self.unusable("b", contest, book, "bc", "a", value)
                self.unusable("b", contest, book, "bc", "a", value, manner=None)
                self.unusable("x", wins_of, book, value, "a")
                self.unusable("x", wins_of, book, value, value, manner=None)
                self.unusable("a", wins_of, book, "bc", value)
                self.unusable("a", wins_of, book, "bc", value, manner=None)
                self.unusable("x", order_by_contests, book, value)
                self.unusable("x", order_by_contests, book, value, manner=None)

    def test_things_that_are_not_at_most_x(self):
        for book in (BOOK, LOOSE):
            for value in ("cb", "bb", "bcb", "cc", "bcc"):
                self.unusable("a", contest, book, "bc", value, "a")
                self.unusable("a", contest, book, "bc", value, value)
                self.unusable("b", contest, book, "bc", "a", value)
                self.unusable("b", contest, book, "bc", "bc", value, manner="left")
                self.unusable("a", wins_of, book, "bc", value)

    def test_wrong_manners(self):
        for book in (BOOK, LOOSE):
            for value in NO_MANNERS:
                self.unusable("manner", contest, book, "bc", "a", "c", manner=value)
                self.unusable("manner", wins_of, book, "bc", "a", manner=value)
                self.unusable("manner", order_by_contests, book, "bc", manner=value)

    def test_books_that_do_not_fall(self):
        for rules, r in [(LOOSE[1], 0), ((*BOOK[1], RULES[15]), 2), ((RULES[10], RULES[14], RULES[16]), 1)]:
            book = (LETTERS, rules)
            for manner in MANNERS:
                self.refused(NotFalling, {"rule": r}, contest, book, "b", "a", "", manner=manner)
                self.refused(NotFalling, {"rule": r}, wins_of, book, "b", "a", manner=manner)
                self.refused(NotFalling, {"rule": r}, order_by_contests, book, "b", manner=manner)
        # In CHAIN_LETTERS a put rule of c for a falls though a is no next lesser letter; one of b for c does not.
        book = (CHAIN_LETTERS, (("put", "c", "a", "left"), ("put", "b", "c", "left")))
        self.refused(NotFalling, {"rule": 1}, contest, book, "b", "a", "b")
        self.same(contest((CHAIN_LETTERS, book[1][:1]), "c", "a", "b"), "a")
        self.same(contest(CHAIN, "c", "a", "b"), "c")

    def test_arguments_by_name(self):
        self.same(contest(b="c", a="a", x="bc", book=BOOK), "c")
        self.same(wins_of(a="c", x="bc", manner="again", book=BACK), ("ac", "bc"))
        self.same(order_by_contests(x="c", book=BOOK), ("", "c"))
        for call in (
            lambda: contest(BOOK, "bc", "a", "c", "on"),
            lambda: wins_of(BOOK, "bc", "a", "on"),
            lambda: order_by_contests(BOOK, "bc", "on"),
        ):
            with self.assertRaises(TypeError):
                call()

    def test_what_is_handed_in_does_not_change(self):
        given = ["a", ["b"]]
        self.unusable("x", contest, BOOK, given, given, given)
        self.unusable("a", wins_of, BOOK, "a", given)
        self.unusable("manner", order_by_contests, BOOK, "a", manner=given)
        self.same(given, ["a", ["b"]])


if __name__ == "__main__":
    unittest.main()
