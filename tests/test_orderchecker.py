"""Points [8], [22], [34], [38], [39], and (G2), (G7) in [9]: the checker of orders."""

import functools
import itertools
import unittest

from firstfailing.contests import order_by_contests
from firstfailing.errors import InvalidPaper, NotFalling
from firstfailing.orderchecker import lets_order
from firstfailing.rankings import ranking_of
from firstfailing.walking import last_of
from tests.support import (
    BACK, BOOK, CHAIN, DIAMOND, DROPS, HALVES, LETTERS, LOOSE, NO_LETTERS, NO_MANNERS, NO_RULES, NO_THINGS, NOTHING,
    PUTS, RULES, Case, at_most, fails, is_falling_book, names, rising_tests, small_books, things_of, walk,
)
from tests.test_makerchecker import changed
from tests.test_rankings import FALLING, LOWERS

MANNERS = ("again", "on")
NO_ORDERS = (
    None, True, False, 0, 1, -1, "", "a", "bc", (), [], {}, ("",), [""], (0,), (None,), (True,), ("A",), (("",),), ([],), ("", 1),
)


@functools.lru_cache(None)
def contest_of(book, x, causes, manner):
    """The contest of one or two causes, as [8] says it."""
    return walk(book, ("causes", causes), x, manner)[-1][0]


def causes_at_most(book, x):
    """All sets of one thing at most x, then all of two, each ascending."""
    things = sorted(at_most(book, x))
    return [(a,) for a in things] + list(itertools.combinations(things, 2))


def verdict(book, x, thing, manner="again", word="contest"):
    """What the checker is to say: how many things, or the word and the place of the first entry that applies."""
    things = sorted(at_most(book, x))
    if type(thing) is not tuple or any(type(part) is not str for part in thing) or sorted(thing) != things:
        return ("things", -1)
    for causes in causes_at_most(book, x):
        first = [part for part in thing if set(causes) & at_most(book, part)][0]
        if contest_of(book, x, causes, manner) != first:
            return (word, causes)
    return len(thing)


class Checks(Case):
    def says(self, book, x, thing, manner="again", wanted=None):
        """The checker says what it is to say, and this, if told."""
        right = verdict(book, x, thing, manner)
        if wanted is not None:
            self.same(right, wanted, (book, x, thing, manner))
        if type(right) is int:
            self.same(lets_order(book, x, thing, manner=manner), right, (book, x, thing, manner))
        else:
            word, at = right
            self.refused(InvalidPaper, {"word": word, "at": at}, lets_order, book, x, thing, manner=manner)

    def test_the_examples(self):
        order = ("", "c", "a", "b", "ac", "bc")
        self.same([lets_order(BOOK, "bc", order), lets_order(DROPS, "b", ("", "b", "a"))], [6, 3])
        changed_order = ("", "a", "c", "b", "ac", "bc")
        self.refused(InvalidPaper, {"word": "contest", "at": ("a", "c")}, lets_order, BOOK, "bc", changed_order)

    def test_orders_that_are_told_are_accepted(self):
        for book in FALLING:
            for x, manner in itertools.product(things_of(names(book), 2), MANNERS):
                order = order_by_contests(book, x, manner=manner)
                self.says(book, x, order, manner, len(at_most(book, x)))

    def test_the_ranking_and_the_other_things_in_any_order(self):
        for book, x in [(DROPS, "bb"), (PUTS, "ab"), (NO_RULES, "ab"), (DIAMOND, "r")]:
            for manner in MANNERS:
                rows = ranking_of(book, x, manner=manner)
                others = sorted(at_most(book, x) - set(rows))
                for row in itertools.islice(itertools.permutations(others), 30):
                    self.says(book, x, (*rows, *row), manner, len(rows) + len(others))

    def test_all_rows_of_few_things(self):
        for book, x in [(BOOK, "b"), (DROPS, "b"), (HALVES, "ac"), (BACK, "ac"), (PUTS, "ca"), (DROPS, "cc"), (CHAIN, "c")]:
            for manner in MANNERS:
                for row in itertools.permutations(sorted(at_most(book, x))):
                    self.says(book, x, row, manner)

    def test_one_place_is_changed(self):
        for book, x in [(BOOK, "bc"), (HALVES, "abc"), (DROPS, "bb"), (LOWERS, "bc"), (PUTS, "cab")]:
            for manner in MANNERS:
                order = order_by_contests(book, x, manner=manner)
                for other in changed(order):
                    self.says(book, x, other, manner)
                for k, place in itertools.permutations(range(len(order)), 2):
                    left = order[:k] + order[k + 1:]
                    self.says(book, x, (*left[:place], order[k], *left[place:]), manner)
                    swapped = list(order)
                    swapped[k], swapped[place] = order[place], order[k]
                    self.says(book, x, tuple(swapped), manner)

    def test_small_books(self):
        for book in small_books(LETTERS):
            if is_falling_book(book):
                for manner in MANNERS:
                    order = order_by_contests(book, "bc", manner=manner)
                    self.says(book, "bc", order, manner, 6)
                    self.says(book, "bc", ("", "a", "b", "c", "ac", "bc"), manner)
                    self.says(book, "bc", (*order[:3], order[4], order[3], order[5]), manner)
                    self.says(book, "bc", (order[1], order[0], *order[2:]), manner)

    def test_shape(self):
        for book, x in [(BOOK, "bc"), (BOOK, ""), (NO_RULES, "c"), (NOTHING, "")]:
            for value in NO_ORDERS:
                for manner in MANNERS:
                    self.says(book, x, value, manner)
            order = order_by_contests(book, x)
            for value in (list(order), (*order, order[0]), order[1:], (*order, "z"), (*order[1:], "zz"), set(order)):
                self.says(book, x, value, wanted=("things", -1))
            self.says(book, x, (*order[1:], [order[0]]), wanted=("things", -1))
        self.says(NOTHING, "", ("",), wanted=1)

    def test_sets_of_one_thing_come_first(self):
        # Both the cause c alone and the causes "" and a go otherwise; the set of one is told.
        order = ("", "a", "b", "ac", "c", "bc")
        self.says(BOOK, "bc", order, wanted=("contest", ("c",)))
        self.says(BOOK, "bc", ("a", "", "c", "b", "ac", "bc"), wanted=("contest", ("",)))
        self.says(BOOK, "bc", ("", "a", "c", "b", "ac", "bc"), wanted=("contest", ("a", "c")))
        self.says(BACK, "bc", ("", "c", "a", "b", "ac", "bc"), wanted=("contest", ("a", "c")))
        self.says(BOOK, "bc", ("", "c", "b", "a", "bc", "ac"), wanted=("contest", ("a",)))
        self.says(BOOK, "bc", ("", "c", "a", "b", "bc", "ac"), wanted=("contest", ("ac",)))
        self.says(BOOK, "bb", ("", "a", "aa", "b", "ab", "ba", "bb"), wanted=("contest", ("aa", "b")))

    def test_many_things(self):
        long = "a" * 31
        self.same(lets_order(DROPS, long, tuple("a" * k for k in range(32))), 32)
        for book, x in [(BOOK, "bcab"), (BACK, "bcab")]:
            order = order_by_contests(book, x)
            self.same(lets_order(book, x, order), len(order))
        hundred = tuple("a" * k for k in range(100))
        self.same(lets_order(DROPS, "a" * 99, hundred, manner="on"), 100)
        swapped = (*hundred[:98], hundred[99], hundred[98])
        self.refused(InvalidPaper, {"word": "contest", "at": ("a" * 98,)}, lets_order, DROPS, "a" * 99, swapped)


class Consequences(Case):
    def test_shrinking_ends_in_the_first_failing_thing_of_any_order(self):
        for book, x in [(BOOK, "bc"), (BACK, "bc"), (DROPS, "bb"), (HALVES, "abc"), (PUTS, "ab"), (DIAMOND, "r")]:
            for manner in MANNERS:
                rows = [row for row in itertools.permutations(sorted(at_most(book, x)))] if len(at_most(book, x)) < 7 else []
                orders = [row for row in rows if verdict(book, x, row, manner) == len(row)]
                for order in [*orders[:5], order_by_contests(book, x, manner=manner)]:
                    self.same(lets_order(book, x, order, manner=manner), len(order))
                    for test in rising_tests(book, x):
                        first = [thing for thing in order if fails(book, test, thing)][0]
                        self.same(last_of(book, test, x, manner=manner), first)

    def test_a_complete_book_has_one_order(self):
        for book in (BOOK, BACK):
            rows = itertools.permutations(sorted(at_most(book, "bc")))
            self.assertEqual([row for row in rows if verdict(book, "bc", row) == 6], [ranking_of(book, "bc")])


class Refused(Case):
    def test_wrong_things(self):
        for book in (BOOK, LOOSE):
            for value in (*NO_THINGS, "d", "abd"):
                self.unusable("x", lets_order, book, value, ("",))
                self.unusable("x", lets_order, book, value, value, manner=None)

    def test_wrong_manners(self):
        for book in (BOOK, LOOSE):
            for value in NO_MANNERS:
                self.unusable("manner", lets_order, book, "b", ("", "a", "b"), manner=value)
                self.unusable("manner", lets_order, book, "b", value, manner=value)

    def test_books_that_do_not_fall(self):
        for rules, r in [(LOOSE[1], 0), ((*BOOK[1], RULES[15]), 2), ((RULES[10], RULES[14], RULES[16]), 1)]:
            for thing in (("", "a", "b"), None, (), ["a"]):
                for manner in MANNERS:
                    self.refused(NotFalling, {"rule": r}, lets_order, (LETTERS, rules), "b", thing, manner=manner)

    def test_arguments_by_name(self):
        self.same(lets_order(thing=("", "c"), x="c", manner="on", book=BOOK), 2)
        with self.assertRaises(TypeError):
            lets_order(BOOK, "c", ("", "c"), "on")

    def test_what_is_handed_in_does_not_change(self):
        given = ["", ["a"], "b"]
        self.refused(InvalidPaper, {"word": "things", "at": -1}, lets_order, BOOK, "b", given)
        self.refused(InvalidPaper, {"word": "things", "at": -1}, lets_order, BOOK, "b", tuple(given))
        self.same(given, ["", ["a"], "b"])

    def test_books_without_letters_or_rules(self):
        for book in (NOTHING, NO_LETTERS, NO_RULES):
            self.same(lets_order(book, "", ("",)), 1)
        # Nothing can be left out, so ab is found by each cause; it comes first.
        things = sorted(at_most(NO_RULES, "ac") - {"ac"})
        for row in itertools.permutations(things):
            self.same(lets_order(NO_RULES, "ac", ("ac", *row)), len(things) + 1)


if __name__ == "__main__":
    unittest.main()
