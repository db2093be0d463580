"""Points [3], [4], [5], [22], [23]: steps, the results of rules, and falling books."""

import itertools
import unittest

from firstfailing.stepping import is_falling, rule_steps, steps_of
from tests.support import (
    BACK, BOOK, BOOKS, CHAIN_LETTERS, DIAMOND, DIAMOND_LETTERS, DROPS, GROWING, HALVES, LETTERS, LOOSE,
    NO_LETTERS, NO_NUMBERS, NO_RULES, NO_THINGS, NOTHING, PUTS, RULES, SIX, Case, at_most, below, names, once, results,
    steps, things_of,
)


class Steps(Case):
    def test_the_examples(self):
        self.same(
            [steps_of(BOOK, "bc"), steps_of(BACK, "bc"), rule_steps(BOOK, 0, "bb"), rule_steps(LOOSE, 1, "cc")],
            [("c", "b", "ac"), ("b", "c", "ac"), ("b",), ("aac", "caa")],
        )
        self.same([is_falling(BOOK), is_falling(LOOSE), steps_of(BOOK, "")], [True, False, ()])

    def test_each_rule_by_hand(self):
        for rule, x, wanted in [
            (("drop", 1, "left"), "abc", ("bc", "ac", "ab")),
            (("drop", 1, "right"), "abc", ("ab", "ac", "bc")),
            (("drop", 1, "left"), "aab", ("ab", "aa")),
            (("drop", 2, "left"), "abcb", ("cb", "ab")),
            (("drop", 2, "right"), "abcb", ("ab", "cb")),
            (("drop", 2, "right"), "abcc", ("ab", "ac", "cc")),
            (("drop", 3, "left"), "abc", ("",)),
            (("drop", 4, "left"), "abc", ()),
            (("drop", 1, "left"), "", ()),
            (("drop", 10 ** 59, "right"), "abc", ()),
            (("half", "left"), "abcba", ("ab",)),
            (("half", "right"), "abcba", ("ba",)),
            (("half", "left"), "abcc", ("ab",)),
            (("half", "right"), "abcc", ("cc",)),
            (("half", "left"), "c", ("",)),
            (("half", "right"), "c", ("",)),
            (("half", "left"), "", ()),
            (("half", "right"), "", ()),
            (("empty",), "abc", ("",)),
            (("empty",), "", ()),
            (("lower", "left"), "bcb", ("acb", "bca")),
            (("lower", "right"), "bcb", ("bca", "acb")),
            (("lower", "left"), "aca", ()),
            (("put", "b", "", "left"), "bab", ("ab", "ba")),
            (("put", "b", "", "right"), "bab", ("ba", "ab")),
            (("put", "b", "", "left"), "bb", ("b",)),
            (("put", "c", "cc", "left"), "cac", ("ccac", "cacc")),
            (("put", "c", "abc", "right"), "cac", ("caabc", "abcac")),
            (("put", "b", "a", "left"), "ac", ()),
        ]:
            book = (LETTERS, (("empty",), rule))
            self.same(rule_steps(book, 1, x), wanted, (rule, x))

    def test_lower_takes_all_directly_lesser_letters_ascending_and_no_others(self):
        book = (CHAIN_LETTERS, (("lower", "left"), ("lower", "right")))
        self.same(rule_steps(book, 0, "cb"), ("ab", "bb", "ca"))
        self.same(rule_steps(book, 1, "cb"), ("ca", "ab", "bb"))
        self.same(rule_steps(DIAMOND, 0, "pz"), ("qz", "rz"))
        self.same(rule_steps(DIAMOND, 0, "rq"), ("rz", "qq", "zq"))

    def test_all_rules_and_short_things(self):
        book = (LETTERS, RULES)
        for x in things_of("abc", 4):
            for k, rule in enumerate(RULES):
                self.same(rule_steps(book, k, x), tuple(once(results(book, rule, x), x)), (rule, x))
            self.same(steps_of(book, x), tuple(steps(book, x)), x)

    def test_steps_of_pairs_of_rules_come_once_where_they_come_first(self):
        for pair in itertools.product(RULES, repeat=2):
            book = (LETTERS, pair)
            for x in ("", "b", "cb", "abc", "bbab"):
                self.same(steps_of(book, x), tuple(steps(book, x)), (pair, x))

    def test_other_books_and_long_things(self):
        for book in BOOKS:
            for x in things_of(names(book), 3):
                self.same(steps_of(book, x), tuple(steps(book, x)), (book, x))
                for k, rule in enumerate(book[1]):
                    self.same(rule_steps(book, k, x), tuple(once(results(book, rule, x), x)), (book, k, x))
        for book, x in [(SIX, "pqrzpq"), (SIX, "pppppp"), (GROWING, "cbacba"), (HALVES, "abcab" * 9)]:
            self.same(steps_of(book, x), tuple(steps(book, x)), x)

    def test_books_without_letters_or_without_rules(self):
        self.same(steps_of(NOTHING, ""), ())
        self.same(steps_of(NO_LETTERS, ""), ())
        self.same(rule_steps(NO_LETTERS, 3, ""), ())
        self.same(steps_of(NO_RULES, "abc"), ())

    def test_arguments_by_name(self):
        self.same(steps_of(book=BOOK, x="bc"), ("c", "b", "ac"))
        self.same(rule_steps(x="bb", k=0, book=BOOK), ("b",))
        self.same(is_falling(book=BOOK), True)

    def test_wrong_things(self):
        for value in (*NO_THINGS, "d", "abd", "bcz"):
            self.unusable("x", steps_of, BOOK, value)
            self.unusable("x", rule_steps, BOOK, 0, value)
        self.unusable("x", steps_of, NOTHING, "a")

    def test_wrong_indexes_of_rules(self):
        for value in (*NO_NUMBERS, 2, 3, 10 ** 59):
            self.unusable("k", rule_steps, BOOK, value, "a")
            self.unusable("k", rule_steps, BOOK, value, "d")
        self.unusable("k", rule_steps, NO_RULES, 0, "a")
        self.unusable("k", rule_steps, NO_RULES, 0, None)

    def test_what_is_handed_in_does_not_change(self):
        given = ["b"]
        self.unusable("x", steps_of, BOOK, given)
        self.unusable("k", rule_steps, BOOK, given, given)
        self.same(given, ["b"])


class Falling(Case):
    def test_put_rules_decide(self):
        for letters in (LETTERS, CHAIN_LETTERS, DIAMOND_LETTERS):
            every = [letter for letter, _ in letters]
            for letter in every:
                for word in things_of(every, 2):
                    if word == letter:
                        continue
                    for side in ("left", "right"):
                        book = (letters, (("put", letter, word, side),))
                        wanted = word == "" or word in below((letters, ()), letter)
                        self.same(is_falling(book), wanted, book)

    def test_every_rule_counts(self):
        others = tuple(rule for rule in RULES if rule[0] != "put")
        self.same(is_falling((LETTERS, others)), True)
        for rule in RULES:
            if rule[0] == "put":
                wanted = rule[1:3] in (("b", "a"), ("a", ""), ("c", ""))
                for book in [(LETTERS, others + (rule,)), (LETTERS, (rule,) + others), (LETTERS, (rule, RULES[10]))]:
                    self.same(is_falling(book), wanted, rule)

    def test_falling_books_are_those_of_which_all_steps_are_below(self):
        for pair in itertools.product(RULES, repeat=2):
            book = (LETTERS, pair)
            falls = all(step in at_most(book, x) for x in things_of("abc", 2) for step in steps(book, x))
            self.same(is_falling(book), falls, pair)

    def test_named_books(self):
        falling = [BOOK, BACK, DROPS, HALVES, PUTS, NO_RULES, NOTHING, NO_LETTERS, DIAMOND]
        for book in BOOKS:
            if book in falling:
                self.same(is_falling(book), True, book)
        for book in (LOOSE, GROWING, SIX):
            self.same(is_falling(book), False, book)


if __name__ == "__main__":
    unittest.main()
