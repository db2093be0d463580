"""Points [3], [4], [13], [14], [15], [17]: the letters of books, and things that are at most others."""

import unittest

from firstfailing.bookparts import (
    has_letters, is_at_most, letters_below, letters_of, lessers_of, next_less, next_lessers, things_at_most,
)
from tests.support import (
    BOOK, BOOKS, CHAIN, CHAIN_LETTERS, DIAMOND, DIAMOND_LETTERS, LETTERS, NO_LETTERS, NO_RULES, NO_THINGS, NOTHING,
    Case, at_most, below, names, next_less_of, things_of,
)

SHORTCUT = ((("a", ()), ("b", ("a",)), ("c", ("a", "b")), ("d", ("a", "b", "c"))), ())
FORK = ((("a", ()), ("b", ()), ("c", ("a", "b")), ("d", ("b", "c"))), ())
SKIPPING = ((("a", ()), ("b", ("a",)), ("c", ("b",)), ("d", ("a", "c"))), ())
UPWARD = ((("a", ("b", "c")), ("b", ("c",)), ("c", ())), ())
ORDERS = (NO_RULES, CHAIN, DIAMOND, SHORTCUT, FORK, SKIPPING, UPWARD)


class Letters(Case):
    def test_the_examples(self):
        self.same([letters_below(CHAIN, "c"), next_lessers(CHAIN, "c")], [("a", "b"), ("b",)])

    def test_letters(self):
        self.same(letters_of(BOOK), ("a", "b", "c"))
        self.same(letters_of(NOTHING), ())
        self.same(letters_of(NO_LETTERS), ())
        for book in BOOKS:
            self.same(letters_of(book), tuple(names(book)))

    def test_lessers(self):
        for book in (*BOOKS, *ORDERS):
            for letter, lessers in book[0]:
                self.same(lessers_of(book, letter), lessers)
                self.same(letters_below(book, letter), tuple(sorted(below(book, letter))))

    def test_lessers_by_hand(self):
        self.same([lessers_of(BOOK, letter) for letter in "abc"], [(), ("a",), ()])
        self.same([letters_below(SKIPPING, letter) for letter in "abcd"], [(), ("a",), ("a", "b"), ("a", "b", "c")])
        self.same([lessers_of(SKIPPING, letter) for letter in "abcd"], [(), ("a",), ("b",), ("a", "c")])
        self.same([letters_below(DIAMOND, letter) for letter in "pqrz"], [("q", "r", "z"), ("z",), ("q", "z"), ()])

    def test_next_lessers_are_below_no_other_directly_lesser_letter(self):
        for book, wanted in [
            (NO_RULES, [(), ("a",), ()]),
            (CHAIN, [(), ("a",), ("b",)]),
            (SHORTCUT, [(), ("a",), ("b",), ("c",)]),
            (FORK, [(), (), ("a", "b"), ("c",)]),
            (SKIPPING, [(), ("a",), ("b",), ("c",)]),
            (DIAMOND, [("r",), ("z",), ("q",), ()]),
            (UPWARD, [("b",), ("c",), ()]),
        ]:
            self.same([next_lessers(book, letter) for letter in names(book)], wanted, book)

    def test_letters_of_no_book(self):
        for call in (lessers_of, letters_below, next_lessers):
            for value in (*NO_THINGS, "", "d", "z", "ab", "aa", ("a",), ["a"]):
                self.unusable("letter", call, BOOK, value)
            self.unusable("letter", call, NOTHING, "a")

    def test_things_of_the_letters(self):
        for value in ("", "a", "b", "c", "abc", "cccc", "cab" * 1000):
            self.same(has_letters(BOOK, value), True)
        for value in (*NO_THINGS, "d", "abd", "dab", "z", BOOK, ("a", "b"), 10 ** 59):
            self.same(has_letters(BOOK, value), False, value)
        self.same([has_letters(NOTHING, ""), has_letters(NOTHING, "a")], [True, False])

    def test_arguments_by_name(self):
        self.same(letters_of(book=BOOK), ("a", "b", "c"))
        self.same(lessers_of(letter="b", book=BOOK), ("a",))
        self.same(letters_below(letter="b", book=BOOK), ("a",))
        self.same(next_lessers(letter="b", book=BOOK), ("a",))
        self.same(has_letters(thing="b", book=BOOK), True)
        self.same(is_at_most(v="b", u="a", book=BOOK), True)
        self.same(things_at_most(x="b", book=BOOK), ("", "a", "b"))
        self.same(next_less(x="b", book=BOOK), ("a",))


class Things(Case):
    def test_the_examples(self):
        self.same(
            [things_at_most(BOOK, "bc"), next_less(BOOK, "bc"), is_at_most(BOOK, "ca", "acb"), is_at_most(BOOK, "ab", "ba")],
            [("", "a", "ac", "b", "bc", "c"), ("ac", "b"), True, False],
        )
        self.same(next_less(CHAIN, "ac"), ("ab", "c"))

    def test_all_pairs_of_short_things(self):
        for book in ORDERS:
            things = things_of(names(book), 3 if len(book[0]) == 3 else 2)
            for v in things:
                lower = at_most(book, v)
                for u in things:
                    self.same(is_at_most(book, u, v), u in lower, (book, u, v))

    def test_longer_things(self):
        for book in (NO_RULES, CHAIN, DIAMOND):
            every = names(book)
            for v in ["".join(every[(k * k + i) % len(every)] for i in range(5)) for k in range(6)]:
                lower = at_most(book, v)
                for u in things_of(every, 4):
                    self.same(is_at_most(book, u, v), u in lower, (book, u, v))

    def test_is_at_most_by_hand(self):
        for u, v, wanted in [
            ("", "", True), ("", "abc", True), ("a", "", False), ("abc", "abc", True), ("aa", "a", False),
            ("aa", "bb", True), ("ab", "bb", True), ("ba", "bb", True), ("bb", "ab", False), ("c", "b", False),
            ("b", "c", False), ("a", "c", False), ("b", "a", False), ("acac", "bcbcb", True), ("cc", "bcb", False),
        ]:
            self.same(is_at_most(BOOK, u, v), wanted, (u, v))
        self.same(is_at_most(BOOK, "a" * 2000, "ab" * 1000), True)
        self.same(is_at_most(BOOK, "a" * 2001, "ab" * 1000), False)

    def test_all_things_at_most(self):
        for book in ORDERS:
            for x in things_of(names(book), 3):
                self.same(things_at_most(book, x), tuple(sorted(at_most(book, x))), (book, x))
        for x in ("bbcab", "abcabc", "cacaca"):
            self.same(things_at_most(BOOK, x), tuple(sorted(at_most(BOOK, x))), x)
        self.same(things_at_most(BOOK, "a" * 99), tuple("a" * k for k in range(100)))
        self.same(things_at_most(NOTHING, ""), ("",))

    def test_next_less_things(self):
        for book in ORDERS:
            for x in things_of(names(book), 3):
                self.same(next_less(book, x), tuple(sorted(next_less_of(book, x))), (book, x))

    def test_next_less_by_hand(self):
        for book, x, wanted in [
            (BOOK, "", ()), (BOOK, "a", ("",)), (BOOK, "b", ("a",)), (BOOK, "aa", ("a",)), (BOOK, "bb", ("ab", "ba")),
            (BOOK, "cac", ("ac", "ca", "cc")), (FORK, "d", ("c",)), (FORK, "c", ("a", "b")),
            (SHORTCUT, "da", ("ca", "d")), (DIAMOND, "pz", ("p", "rz")),
        ]:
            self.same(next_less(book, x), wanted, (book, x))

    def test_wrong_things(self):
        for value in (*NO_THINGS, "d", "abd"):
            self.unusable("x", things_at_most, BOOK, value)
            self.unusable("x", next_less, BOOK, value)
            self.unusable("u", is_at_most, BOOK, value, "a")
            self.unusable("u", is_at_most, BOOK, value, value)
            self.unusable("v", is_at_most, BOOK, "a", value)

    def test_what_is_handed_in_does_not_change(self):
        given = ["a"]
        for call in (lessers_of, letters_below, next_lessers):
            self.unusable("letter", call, BOOK, given)
        for call in (things_at_most, next_less):
            self.unusable("x", call, BOOK, given)
        self.same(has_letters(BOOK, given), False)
        self.unusable("u", is_at_most, BOOK, given, given)
        self.same(given, ["a"])


class Consequences(Case):
    def test_things_go_by_the_letters_alone(self):
        for rules in (BOOK[1], (), (("empty",),)):
            self.same(things_at_most((LETTERS, rules), "bc"), ("", "a", "ac", "b", "bc", "c"))
        self.same(next_less((CHAIN_LETTERS, BOOK[1]), "ac"), ("ab", "c"))
        self.same(next_less((DIAMOND_LETTERS, ()), "p"), ("r",))


if __name__ == "__main__":
    unittest.main()
