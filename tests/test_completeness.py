"""Points [4], [5], [8], [22], [34], [43], [44], and (G3), (G4) in [9]: what is surely found, and what lacks."""

import itertools
import unittest

from firstfailing.completeness import finds_least, is_complete, lacking_steps, missing_rules
from firstfailing.errors import NotFalling
from tests.support import (
    BACK, BOOK, CHAIN_LETTERS, DIAMOND, DIAMOND_LETTERS, DROPS, HALVES, LETTERS, LOOSE, NO_LETTERS, NO_MANNERS,
    NO_RULES, NO_THINGS, NOTHING, PUTS, RULES, Case, at_most, falls, fails, is_falling_book, names, next_less_of,
    rising_tests, small_books, steps, things_of, walk,
)
from tests.test_rankings import FALLING

MANNERS = ("again", "on")
DROP = ("drop", 1, "left")
LOWER = ("lower", "left")
FALLING_RULES = [rule for rule in RULES if falls((LETTERS, ()), rule)]


def lacking(book, x):
    """The next less things of x that are no steps of it, as [43] says."""
    return next_less_of(book, x) - set(steps(book, x))


def complete(book):
    """Whether a book is complete, by its things of at most three letters, as [44] says."""
    return not any(lacking(book, x) for x in things_of(names(book), 3))


def missing(book):
    """The fewest of the two rules with which, behind its own, the book is complete."""
    for rows in [(), (DROP,), (LOWER,), (DROP, LOWER)]:
        if complete((book[0], book[1] + rows)):
            return rows
    return None


def ends_least(book, x, manner):
    """Whether shrinking ends in a least failing thing by all rising tests by which x fails."""
    for test in rising_tests(book, x):
        end = walk(book, test, x, manner)[-1][0]
        if any(fails(book, test, thing) for thing in at_most(book, end) - {end}):
            return False
    return True


class Complete(Case):
    def test_the_examples(self):
        self.same(
            [is_complete(BOOK), missing_rules(BOOK), missing_rules(DROPS), missing_rules(PUTS)],
            [True, (), (("lower", "left"),), (("drop", 1, "left"),)],
        )
        self.same(
            [
                lacking_steps(DROPS, "bc"), lacking_steps(PUTS, "ac"), lacking_steps(PUTS, "ca"), finds_least(DROPS, "aca"),
                finds_least(PUTS, "ca"),
            ],
            [("ac",), (), ("a",), True, False],
        )

    def check(self, book):
        wanted = missing(book)
        self.same(missing_rules(book), wanted, book)
        self.same(is_complete(book), wanted == (), book)
        self.same(is_complete((book[0], book[1] + wanted)), True, book)

    def test_books(self):
        for book in FALLING:
            self.check(book)

    def test_small_books(self):
        letters = (("a", ()), ("b", ("a",)))
        rules = [rule for rule in FALLING_RULES if "c" not in rule]
        for row in itertools.product(rules, repeat=2):
            self.check((letters, row))
        for rule in FALLING_RULES:
            self.check((LETTERS, (rule,)))
            self.check((LETTERS, (DROP, rule)))
            self.check((LETTERS, (rule, LOWER)))

    def test_both_rules_one_the_other_and_none(self):
        drops = [("drop", 1, "left"), ("drop", 1, "right")]
        lowers = [("lower", "left"), ("lower", "right")]
        for front in [(), (("empty",),), (("half", "left"), ("drop", 2, "right"))]:
            for drop, lower in itertools.product(drops, lowers):
                self.same(missing_rules((LETTERS, (*front, drop, lower))), ())
                self.same(missing_rules((LETTERS, (*front, lower, drop))), ())
                self.same(missing_rules((LETTERS, (*front, drop))), (LOWER,))
                self.same(missing_rules((LETTERS, (*front, lower))), (DROP,))
                self.same(missing_rules((LETTERS, front)), (DROP, LOWER))
        for n in (2, 3, 10 ** 59):
            self.same(missing_rules((LETTERS, (("drop", n, "left"), LOWER))), (DROP,))

    def test_put_rules_instead(self):
        empties = tuple(("put", letter, "", side) for letter, side in (("a", "left"), ("c", "right")))
        lowering = (("put", "b", "a", "right"),)
        self.same(missing_rules((LETTERS, empties + lowering)), ())
        self.same(missing_rules((LETTERS, lowering + empties)), ())
        self.same(missing_rules((LETTERS, empties[:1] + lowering)), (DROP,))
        self.same(missing_rules((LETTERS, empties)), (LOWER,))
        self.same(missing_rules((LETTERS, (*empties, ("put", "b", "", "left")))), (LOWER,))
        self.same(missing_rules((LETTERS, (("put", "b", "", "left"), *lowering))), (DROP,))

    def test_only_next_lesser_letters_and_least_ones_count(self):
        chain = (("put", "a", "", "left"), ("put", "b", "a", "left"), ("put", "c", "b", "left"))
        self.same(missing_rules((CHAIN_LETTERS, chain)), ())
        self.same(missing_rules((CHAIN_LETTERS, chain[:2])), (LOWER,))
        self.same(missing_rules((CHAIN_LETTERS, (*chain[:2], ("put", "c", "a", "left")))), (LOWER,))
        self.same(missing_rules((CHAIN_LETTERS, (*chain[1:], ("put", "c", "", "left"), ("put", "b", "", "left")))), (DROP,))
        diamond = tuple(("put", one, two, "left") for one, two in [("p", "r"), ("r", "q"), ("q", "z"), ("z", "")])
        self.same(missing_rules((DIAMOND_LETTERS, diamond)), ())
        for k, wanted in enumerate([(LOWER,), (LOWER,), (LOWER,), (DROP,)]):
            self.same(missing_rules((DIAMOND_LETTERS, diamond[:k] + diamond[k + 1:])), wanted)
        fork = (("a", ()), ("b", ()), ("c", ("a", "b")))
        self.same(missing_rules((fork, (DROP, ("put", "c", "a", "left")))), (LOWER,))
        self.same(missing_rules((fork, (DROP, ("put", "c", "a", "left"), ("put", "c", "b", "left")))), ())

    def test_books_without_letters_or_rules(self):
        for book in (NOTHING, NO_LETTERS):
            self.same([is_complete(book), missing_rules(book)], [True, ()])
            self.same([lacking_steps(book, ""), finds_least(book, ""), finds_least(book, "", manner="on")], [(), True, True])
        self.same([is_complete(NO_RULES), missing_rules(NO_RULES)], [False, (DROP, LOWER)])
        flat = tuple((letter, ()) for letter in "xyz")
        self.same([missing_rules((flat, ())), missing_rules((flat, (DROP,)))], [(DROP,), ()])

    def test_half_and_empty_do_for_short_things_only(self):
        book = ((("a", ()),), (("half", "left"), ("empty",)))
        self.same([lacking_steps(book, "a" * k) for k in range(5)], [(), (), (), ("aa",), ("aaa",)])
        self.same([is_complete(book), missing_rules(book)], [False, (DROP,)])


class Lacking(Case):
    def test_books_and_things(self):
        for book in FALLING:
            for x in things_of(names(book), 3):
                self.same(lacking_steps(book, x), tuple(sorted(lacking(book, x))), (book, x))

    def test_small_books(self):
        for book in small_books(LETTERS, 1):
            if is_falling_book(book):
                for x in things_of("abc", 3):
                    self.same(lacking_steps(book, x), tuple(sorted(lacking(book, x))), (book, x))

    def test_longer_things(self):
        self.same(lacking_steps(NO_RULES, "bcab"), ("acab", "bab", "bca" + "a", "bcb"))
        self.same(lacking_steps(BOOK, "bcabca"), ())


class Least(Case):
    def check(self, book, x):
        for manner in MANNERS:
            self.same(finds_least(book, x, manner=manner), ends_least(book, x, manner), (book, x, manner))

    def test_books_and_short_things(self):
        for book in FALLING:
            for x in things_of(names(book), 2):
                if len(at_most(book, x)) <= 9:
                    self.check(book, x)

    def test_small_books(self):
        for row in itertools.product(FALLING_RULES, repeat=2):
            for x in ("ac", "ba", "cca"):
                self.check((LETTERS, row), x)

    def test_three_rules(self):
        for row in itertools.permutations([("half", "left"), ("drop", 1, "right"), ("drop", 2, "left"), LOWER], 3):
            for x in ("abc", "cab", "bb"):
                if len(at_most((LETTERS, row), x)) <= 10:
                    self.check((LETTERS, row), x)

    def test_least_things_are_found_though_steps_lack_below(self):
        # From ab the step ac does not lead to a by itself, but b does.
        book = (LETTERS, (("put", "a", "", "left"), ("put", "c", "", "left"), ("put", "b", "a", "left")))
        self.same([lacking_steps(book, x) for x in ("b", "bc", "abc")], [(), (), ()])
        found = 0
        for rules in itertools.product(FALLING_RULES, repeat=2):
            for x in things_of("abc", 3):
                one = (LETTERS, rules)
                if finds_least(one, x) and any(lacking(one, thing) for thing in at_most(one, x)):
                    self.same(lacking_steps(one, x), ())
                    self.check(one, x)
                    found += 1
        self.assertGreater(found, 0)

    def test_manners_part(self):
        letters = (("a", ()), ("b", ("a",)), ("c", ("b",)))
        for rules, x in [
            ((("put", "b", "", "right"), ("lower", "right"), ("drop", 2, "left"), ("put", "b", "", "left")), "cc"),
            ((("put", "b", "", "right"), LOWER, ("put", "c", "", "left"), ("drop", 2, "right")), "cc"),
        ]:
            self.same([finds_least((letters, rules), x, manner=manner) for manner in MANNERS], [True, False])
            self.check((letters, rules), x)

    def test_complete_books_find_least_things(self):
        for rules in [BOOK[1], BACK[1], (LOWER, ("half", "left"), DROP), (("empty",), ("drop", 2, "left"), DROP, LOWER)]:
            for x in ("", "b", "abc", "bbc", "cabb"):
                for manner in MANNERS:
                    self.same(finds_least((LETTERS, rules), x, manner=manner), True)
        for x in things_of("pqrz", 2):
            book = (DIAMOND_LETTERS, (LOWER, DROP))
            self.same([finds_least(book, x), finds_least(book, x, manner="on")], [True, True])

    def test_where_steps_lack_least_things_are_not_found(self):
        for book in FALLING:
            for x in things_of(names(book), 3):
                if lacking(book, x):
                    self.same([finds_least(book, x), finds_least(book, x, manner="on")], [False, False])

    def test_a_hundred_things(self):
        for manner in MANNERS:
            self.same(finds_least(DROPS, "a" * 99, manner=manner), True)
            self.same(finds_least(HALVES, "a" * 99, manner=manner), True)
            self.same(finds_least((LETTERS, HALVES[1][:1]), "a" * 99, manner=manner), False)
            self.same(finds_least(BOOK, "bbacb", manner=manner), True)


class Refused(Case):
    def test_wrong_things(self):
        for book in (BOOK, LOOSE):
            for value in (*NO_THINGS, "d", "abd"):
                self.unusable("x", lacking_steps, book, value)
                self.unusable("x", finds_least, book, value)
                self.unusable("x", finds_least, book, value, manner=None)
            for value in NO_MANNERS:
                self.unusable("manner", finds_least, book, "a", manner=value)

    def test_books_that_do_not_fall(self):
        for rules, r in [(LOOSE[1], 0), ((*BOOK[1], RULES[15]), 2), ((RULES[10], RULES[14], RULES[16]), 1)]:
            book = (LETTERS, rules)
            self.refused(NotFalling, {"rule": r}, lacking_steps, book, "b")
            self.refused(NotFalling, {"rule": r}, is_complete, book)
            self.refused(NotFalling, {"rule": r}, missing_rules, book)
            for manner in MANNERS:
                self.refused(NotFalling, {"rule": r}, finds_least, book, "", manner=manner)

    def test_arguments_by_name(self):
        self.same(lacking_steps(x="bc", book=DROPS), ("ac",))
        self.same(finds_least(manner="on", x="bc", book=BOOK), True)
        self.same([is_complete(book=BOOK), missing_rules(book=PUTS)], [True, (DROP,)])
        self.same(is_complete(DIAMOND), False)
        with self.assertRaises(TypeError):
            finds_least(BOOK, "bc", "on")

    def test_what_is_handed_in_does_not_change(self):
        given = ["a", ["b"]]
        self.unusable("x", lacking_steps, BOOK, given)
        self.unusable("x", finds_least, BOOK, given)
        self.unusable("manner", finds_least, BOOK, "a", manner=given)
        self.same(given, ["a", ["b"]])


if __name__ == "__main__":
    unittest.main()
