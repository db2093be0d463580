"""Point [12]: the checker of books."""

import itertools
import unittest

from firstfailing.bookchecker import lets_book
from firstfailing.errors import InvalidPaper
from firstfailing.kinds import is_book
from tests.support import BOOK, BOOKS, LETTERS, RULES, Case

NO_PAIRS = (
    None, True, False, 0, 1, "", "ab", (), [], ((),), [(), ()], ((), (), ()), ([], ()), ((), []), ((), None), (None, ()),
    ("", ()), ((), ""), (1, 2), "book", (LETTERS,), (LETTERS, [("empty",)]), (list(LETTERS), ()), [LETTERS, ()],
    (LETTERS, (), ()), ((), True), (("a",), "x", ()),
)
NO_ENTRIES = (
    None, True, 1, "a", "", (), [], ("a",), ("a", (), ()), ["a", ()], ("a", []), ("a", ["b"]), ("a", "b"), ("a", ""),
    ("", ()), ("ab", ()), ("A", ()), ("1", ()), (1, ()), (None, ()), (("a",), ()), (["a"], ()), ("a", None),
    ("a", ("c", "b")), ("a", ("b", "b")), ("a", ("bc",)), ("a", ("",)), ("a", (1,)), ("a", (["b"],)), ("a", (True,)),
    ("a\n", ()),
)
NO_RULES_AT_ALL = (
    None, True, 1, "empty", "", (), [], ["empty"], ("empty", "left"), ("drop", 0, "left"), ("drop", -1, "left"),
    ("drop", True, "left"), ("drop", "1", "left"), ("drop", 1), ("drop", 1, "up"), ("drop", 1, "left", 1), ("half",),
    ("half", 1), ("lower", "down"), ("lower",), ("put", "a", "a", "left"), ("put", "ab", "", "left"),
    ("put", "", "a", "left"), ("put", "a", None, "left"), ("put", "a", "b"), ("put", "a", "b", "on"), ("swap", "left"),
    (["drop"], 1, "left"), (None, "left"), ("put", ["a"], "b", "left"), ("put", "a", ["b"], "left"), (True, 1, "left"),
)


class Checker(Case):
    def refuses(self, word, at, thing):
        """lets_book refuses it so, and is_book is False."""
        self.refused(InvalidPaper, {"word": word, "at": at}, lets_book, thing)
        self.assertIs(is_book(thing), False, thing)

    def accepts(self, book):
        self.same(lets_book(book), len(book[0]), book)
        self.assertIs(is_book(book), True, book)

    def test_the_examples(self):
        self.same(lets_book(BOOK), 3)
        self.refuses("ring", 1, ((("a", ("b",)), ("b", ("c",)), ("c", ("b",))), ("x",)))

    def test_books(self):
        for book in BOOKS:
            self.accepts(book)
        for rule in RULES:
            self.accepts((LETTERS, (rule, rule)))
        every = "abcdefghijklmnopqrstuvwxyz"
        self.accepts((tuple((letter, tuple(every[:k])) for k, letter in enumerate(every)), ()))
        self.accepts((tuple((letter, tuple(every[k + 1:k + 2])) for k, letter in enumerate(every)), RULES))
        self.accepts((LETTERS, (("drop", 10 ** 59, "left"),) * 9))
        self.accepts((LETTERS, (("put", "a", "abcabcabc", "right"), ("put", "c", "", "left"))))
        self.accepts(((), RULES[:10]))

    def test_shape(self):
        for thing in NO_PAIRS:
            self.refuses("shape", -1, thing)

    def test_letters_that_are_no_pairs(self):
        for value in NO_ENTRIES:
            self.refuses("letter", 0, ((value,), ()))
            self.refuses("letter", 0, ((value, ("z", ())), ()))
            self.refuses("letter", 1, ((("a", ()), value), ()))
            self.refuses("letter", 0, ((value, None), ("x",)))

    def test_letters_that_do_not_ascend(self):
        for rows, at in [("ba", 1), ("aa", 1), ("acb", 2), ("abb", 2), ("cba", 1), ("aba", 2), ("bac", 1), ("abdc", 3)]:
            self.refuses("letter", at, (tuple((letter, ()) for letter in rows), ()))

    def test_all_letters_come_before_the_lessers(self):
        self.refuses("letter", 2, ((("a", ("z",)), ("b", ("b",)), ("a", ())), ()))
        self.refuses("letter", 1, ((("a", ("a",)), None), ()))

    def test_lessers(self):
        self.refuses("lesser", 0, ((("a", ("a",)),), ()))
        self.refuses("lesser", 0, ((("a", ("b",)),), ()))
        self.refuses("lesser", 1, ((("a", ()), ("b", ("b",))), ()))
        self.refuses("lesser", 1, ((("a", ()), ("b", ("a", "b"))), ()))
        self.refuses("lesser", 1, ((("a", ()), ("b", ("a", "c"))), ()))
        self.refuses("lesser", 2, ((("a", ()), ("b", ("a",)), ("d", ("a", "c"))), ()))
        self.refuses("lesser", 1, ((("a", ("b",)), ("b", ("a", "x")), ("c", ("c",))), ()))

    def test_lessers_come_before_rings_and_rings_before_rules(self):
        self.refuses("lesser", 2, ((("a", ("b",)), ("b", ("a",)), ("c", ("d",))), ()))
        self.refuses("lesser", 2, ((("a", ("b",)), ("b", ("a",)), ("c", ("c",))), ("x",)))
        self.refuses("ring", 0, ((("a", ("b",)), ("b", ("a",))), ("x",)))

    def test_rings(self):
        self.refuses("ring", 0, ((("a", ("b",)), ("b", ("a",))), ()))
        self.refuses("ring", 0, ((("a", ("b",)), ("b", ("c",)), ("c", ("a",))), ()))
        self.refuses("ring", 1, ((("a", ("b",)), ("b", ("c",)), ("c", ("d",)), ("d", ("b",))), ()))
        self.refuses("ring", 2, ((("a", ("c",)), ("b", ("a", "d")), ("c", ("d",)), ("d", ("c",))), ()))
        self.refuses("ring", 1, ((("a", ()), ("b", ("a", "c")), ("c", ("a", "b"))), ()))

    def test_all_lessers_of_three_letters(self):
        sets = [row for many in range(3) for row in itertools.combinations("abc", many)]
        for rows in itertools.product(sets, repeat=3):
            letters = tuple(zip("abc", rows))
            selfish = [i for i in range(3) if "abc"[i] in rows[i]]
            reach = {letter: set(row) for letter, row in letters}
            for _ in range(3):
                reach = {one: reach[one].union(*[reach[two] for two in reach[one]]) for one in reach}
            round_about = [i for i in range(3) if "abc"[i] in reach["abc"[i]]]
            if selfish:
                self.refuses("lesser", selfish[0], (letters, ()))
            elif round_about:
                self.refuses("ring", round_about[0], (letters, ()))
            else:
                self.accepts((letters, ()))

    def test_rules(self):
        for value in NO_RULES_AT_ALL:
            self.refuses("rule", 0, (LETTERS, (value,)))
            self.refuses("rule", 1, (LETTERS, (RULES[0], value)))
            self.refuses("rule", 0, (LETTERS, (value, None)))
            self.refuses("rule", 2, (LETTERS, (RULES[0], RULES[1], value, RULES[2])))

    def test_letters_of_rules(self):
        for rule in [
            ("put", "d", "", "left"), ("put", "d", "a", "left"), ("put", "a", "d", "right"), ("put", "a", "ad", "left"),
            ("put", "a", "dbc", "left"), ("put", "z", "abc", "left"),
        ]:
            self.refuses("rule", 0, (LETTERS, (rule,)))
            self.refuses("rule", 1, (LETTERS, (("put", "a", "cb", "left"), rule, ("x",))))
        self.refuses("rule", 0, ((), (("put", "a", "", "left"),)))

    def test_the_argument_by_name(self):
        self.same(lets_book(thing=BOOK), 3)
        self.refused(InvalidPaper, {"word": "shape", "at": -1}, lets_book, thing=None)

    def test_what_is_handed_in_does_not_change(self):
        given = [["a", []]]
        self.refuses("shape", -1, given)
        self.refuses("letter", 0, ((given,), ()))
        self.refuses("rule", 0, ((), (given,)))
        self.same(given, [["a", []]])


if __name__ == "__main__":
    unittest.main()
