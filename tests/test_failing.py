"""Points [4], [6], [22], [27]: whether things fail by tests."""

import itertools
import unittest

from firstfailing.failing import failing_at_most, fails_by
from tests.support import (
    BOOK, CHAIN, DIAMOND, LETTERS, LOOSE, NO_LETTERS, NO_RULES, NO_TESTS, NO_THINGS, NOTHING, Case, at_most, fails,
    names, things_of,
)

STRANGE_TESTS = (("causes", ("d",)), ("only", ("a", "ad")), ("but", ("", "a", "z")), ("has", ("a", "d")), ("has", ("d",)))


def sets_of(things, most):
    """The sets of so many of the things."""
    return [row for many in range(most + 1) for row in itertools.combinations(sorted(things), many)]


class Failing(Case):
    def test_the_examples(self):
        self.same(
            [
                fails_by(BOOK, ("causes", ("a",)), "bc"),
                failing_at_most(BOOK, ("causes", ("a",)), "bc"),
                fails_by(BOOK, ("has", ("a",)), "bc"),
            ],
            [True, ("a", "ac", "b", "bc"), False],
        )

    def test_by_hand(self):
        for test, x, wanted in [
            (("causes", ()), "abc", False), (("causes", ("",)), "", True), (("causes", ("aa", "c")), "ab", True),
            (("causes", ("b", "ca")), "ac", False), (("causes", ("b", "ca")), "acb", True),
            (("causes", ("b",)), "a", False), (("only", ()), "", False), (("only", ("",)), "", True),
            (("only", ("a", "ab")), "ab", True), (("only", ("a", "ab")), "b", False), (("only", ("a",)), "b", False),
            (("only", ("a",)), "aa", False), (("but", ()), "", True), (("but", ("",)), "", False),
            (("but", ("", "a")), "b", True), (("but", ("", "a")), "a", False), (("but", ("a",)), "aa", True),
            (("has", ()), "abc", False), (("has", ("a",)), "", False), (("has", ("a",)), "cab", True),
            (("has", ("a",)), "b", False), (("has", ("a", "c")), "bbc", True), (("has", ("b",)), "a", False),
        ]:
            self.same(fails_by(BOOK, test, x), wanted, (test, x))

    def test_short_tests_and_things(self):
        for book in (NO_RULES, CHAIN, DIAMOND):
            every = names(book)
            things = things_of(every, 2)
            tests = [(word, row) for word in ("causes", "only", "but") for row in sets_of(things, 1)]
            tests += [(word, row) for word in ("causes", "only", "but") for row in sets_of(things[1:8], 2)]
            tests += [("has", row) for row in sets_of(every, len(every))]
            for test, x in itertools.product(tests, things):
                self.same(fails_by(book, test, x), fails(book, test, x), (book, test, x))

    def test_all_failing_things_at_most(self):
        for book in (BOOK, CHAIN, LOOSE, DIAMOND):
            every = names(book)
            for test in [
                ("causes", ()), ("causes", ("",)), ("causes", (every[0],)), ("causes", (every[0] * 2, every[1])),
                ("only", ()), ("only", ("", every[0], every[1])), ("only", (every[2] * 2,)), ("but", ()),
                ("but", ("", every[0], every[1] + every[0])), ("has", ()), ("has", (every[1],)), ("has", tuple(every)),
            ]:
                for x in things_of(every, 3):
                    wanted = tuple(sorted(thing for thing in at_most(book, x) if fails(book, test, thing)))
                    self.same(failing_at_most(book, test, x), wanted, (book, test, x))

    def test_books_without_letters(self):
        for book in (NOTHING, NO_LETTERS):
            self.same(fails_by(book, ("causes", ("",)), ""), True)
            self.same(fails_by(book, ("has", ()), ""), False)
            self.same(failing_at_most(book, ("but", ()), ""), ("",))
            self.same(failing_at_most(book, ("but", ("",)), ""), ())

    def test_a_hundred_things(self):
        self.same(failing_at_most(BOOK, ("causes", ("aaa",)), "a" * 99), tuple("a" * k for k in range(3, 100)))
        self.same(len(failing_at_most(BOOK, ("but", ()), "bbacb")), len(at_most(BOOK, "bbacb")))

    def test_above_a_failing_thing_all_fail_by_rising_tests(self):
        things = things_of("abc", 3)
        for row in sets_of(things_of("abc", 2), 2):
            for x in things:
                if any(fails_by(BOOK, ("causes", row), thing) for thing in at_most(BOOK, x)):
                    self.same(fails_by(BOOK, ("causes", row), x), True)

    def test_arguments_by_name(self):
        self.same(fails_by(x="bc", test=("causes", ("a",)), book=BOOK), True)
        self.same(failing_at_most(x="b", test=("causes", ("a",)), book=BOOK), ("a", "b"))

    def test_wrong_tests(self):
        for call in (fails_by, failing_at_most):
            for value in (*NO_TESTS, *STRANGE_TESTS):
                self.unusable("test", call, BOOK, value, "a")
                self.unusable("test", call, BOOK, value, "d")
                self.unusable("test", call, BOOK, value, None)
            self.unusable("test", call, NOTHING, ("only", ("a",)), "")

    def test_wrong_things(self):
        for call in (fails_by, failing_at_most):
            for value in (*NO_THINGS, "d", "abd"):
                for test in [("causes", ("a",)), ("only", ()), ("but", ("a",)), ("has", ("a",))]:
                    self.unusable("x", call, BOOK, test, value)

    def test_books_need_not_end(self):
        self.same(fails_by(LOOSE, ("has", ("a",)), "ca"), True)
        self.same(failing_at_most((LETTERS, LOOSE[1]), ("has", ("a",)), "b"), ("a",))

    def test_what_is_handed_in_does_not_change(self):
        given = ["causes", ["a"]]
        for call in (fails_by, failing_at_most):
            self.unusable("test", call, BOOK, given, given)
            self.unusable("x", call, BOOK, ("causes", ("a",)), given)
        self.same(given, ["causes", ["a"]])


if __name__ == "__main__":
    unittest.main()
