"""Points [13], [16], [17]: changed books."""

import itertools
import unittest

from firstfailing.bookchanges import mirrored, moved_rule, renamed, with_letter, with_rule, without_rule
from firstfailing.bookparts import is_at_most
from firstfailing.kinds import is_book
from tests.support import (
    BACK, BOOK, BOOKS, CHAIN_LETTERS, DIAMOND, DIAMOND_LETTERS, LETTERS, LOOSE, NO_LETTERS, NO_NUMBERS, NO_RULES,
    NOTHING, RULES, SIX, Case, below, names, things_of,
)

NO_RULES_OF_BOOK = (
    None, True, 1, "empty", (), [], ["empty"], ("empty", "left"), ("drop", 0, "left"), ("drop", True, "left"),
    ("drop", 1), ("drop", 1, "up"), ("half",), ("lower", 1), ("put", "a", "a", "left"), ("put", "a", "b"),
    ("put", "d", "", "left"), ("put", "d", "a", "left"), ("put", "a", "d", "left"), ("put", "a", "bd", "left"),
    ("put", ["a"], "b", "left"), ("swap", "left"), (["empty"],), RULES,
)
NO_LESSERS = (
    None, True, 0, "", "a", ["a"], [], ("d",), ("a", "d"), ("z",), ("b", "a"), ("a", "a"), ("ab",), ("",), (1,),
    (["a"],), (("a",),), ("A",), (None,),
)
NO_TABLES = (
    None, True, 0, "", "ab", [], [("a", "x")], ("a", "x"), ("ax",), (("a",),), (("a", "x", "y"),), (["a", "x"],),
    (("a", "xy"),), (("ab", "x"),), (("a", ""),), (("", "a"),), (("a", "X"),), (("A", "x"),), (("a", None),),
    ((None, "a"),), ((1, "a"),), ((["a"], "x"),), (("a", ["x"]),), (("a", "x"), None), (("a", "x"), ()), ((),),
    (("d", "x"),), (("d", "d"),), (("a", "x"), ("d", "y")), (("a", "x"), ("a", "x")), (("a", "x"), ("a", "y")),
    (("a", "a"), ("a", "a")), (("a", "b"),), (("a", "c"), ("b", "c")), (("a", "b"), ("b", "c")),
    (("a", "x"), ("b", "x")), (("a", "x"), ("b", "y"), ("c", "x")), (("a", "b"), ("c", "a")), (("c", "a"), ("b", "x")),
)


class Rules(Case):
    def test_the_examples(self):
        self.same(
            [with_rule(BOOK, ("empty",), at=0)[1], mirrored(BACK)[1], moved_rule(BOOK, 0, 1)[1]],
            [
                (("empty",), ("drop", 1, "left"), ("lower", "left")),
                (("drop", 1, "left"), ("lower", "right")),
                (("lower", "left"), ("drop", 1, "left")),
            ],
        )
        self.same(
            renamed(LOOSE, (("a", "c"), ("c", "a"))),
            ((("a", ()), ("b", ("c",)), ("c", ())), (("put", "c", "a", "left"), ("put", "a", "cc", "left"))),
        )
        self.unusable("lessers", with_letter, BOOK, "d", ("d",))

    def test_with_rule_at_each_place(self):
        for book in [(LETTERS, RULES[:4]), BOOK, NO_RULES]:
            for rule in RULES:
                behind = (LETTERS, (*book[1], rule))
                self.same(with_rule(book, rule), behind)
                self.same(with_rule(book, rule, at=None), behind)
                for at in range(len(book[1]) + 1):
                    wanted = list(book[1])
                    wanted.insert(at, rule)
                    self.same(with_rule(book, rule, at=at), (LETTERS, tuple(wanted)), (rule, at))
        self.same(with_rule(NOTHING, ("drop", 2, "left")), ((), (("drop", 2, "left"),)))
        self.same(with_rule(BOOK, ("put", "c", "", "left"))[1][2:], (("put", "c", "", "left"),))
        self.same(with_rule(BOOK, BOOK[1][0])[1], (*BOOK[1], BOOK[1][0]))

    def test_without_rule(self):
        book = (LETTERS, RULES)
        for k in range(len(RULES)):
            wanted = [rule for i, rule in enumerate(RULES) if i != k]
            self.same(without_rule(book, k), (LETTERS, tuple(wanted)))
        self.same(without_rule((LETTERS, (("empty",), ("empty",))), 1), (LETTERS, (("empty",),)))
        self.same(without_rule((LETTERS, (("empty",),)), 0), NO_RULES)

    def test_moved_rule(self):
        book = (LETTERS, RULES[:6])
        for k, at in itertools.product(range(6), repeat=2):
            rules = moved_rule(book, k, at)
            wanted = list(RULES[:6])
            wanted.insert(at, wanted.pop(k))
            self.same(rules, (LETTERS, tuple(wanted)), (k, at))
            self.same(rules[1][at], RULES[k])

    def test_mirrored(self):
        other = {"left": "right", "right": "left"}
        for rule in RULES:
            wanted = tuple(other.get(part, part) for part in rule)
            self.same(mirrored((LETTERS, (RULES[0], rule))), (LETTERS, (("drop", 1, "right"), wanted)))
        self.same(mirrored(NOTHING), NOTHING)
        self.same(mirrored(SIX)[1][2:4], (("put", "p", "qrz", "left"), ("put", "r", "", "right")))

    def test_wrong_rules(self):
        for value in NO_RULES_OF_BOOK:
            self.unusable("rule", with_rule, BOOK, value)
            self.unusable("rule", with_rule, BOOK, value, at=0)
            self.unusable("rule", with_rule, BOOK, value, at=-1)
        self.unusable("rule", with_rule, NOTHING, ("put", "a", "", "left"))

    def test_wrong_places(self):
        for value in NO_NUMBERS:
            if value is not None:
                self.unusable("at", with_rule, BOOK, ("empty",), at=value)
        for value in (3, 4, 10 ** 59):
            self.unusable("at", with_rule, BOOK, ("empty",), at=value)
        self.unusable("at", with_rule, NO_RULES, ("empty",), at=1)
        for value in (*NO_NUMBERS, 2, 3, 10 ** 59):
            self.unusable("k", without_rule, BOOK, value)
            self.unusable("k", moved_rule, BOOK, value, 0)
            self.unusable("k", moved_rule, BOOK, value, value)
            self.unusable("at", moved_rule, BOOK, 0, value)
        self.unusable("k", without_rule, NO_RULES, 0)
        self.unusable("k", moved_rule, NOTHING, 0, 0)

    def test_at_is_passed_by_name_only(self):
        with self.assertRaises(TypeError):
            with_rule(BOOK, ("empty",), 0)

    def test_arguments_by_name(self):
        self.same(with_rule(at=0, rule=("empty",), book=NO_RULES), (LETTERS, (("empty",),)))
        self.same(without_rule(k=0, book=BOOK), (LETTERS, BOOK[1][1:]))
        self.same(moved_rule(at=1, k=0, book=BOOK), (LETTERS, BOOK[1][::-1]))
        self.same(mirrored(book=BOOK)[1], (("drop", 1, "right"), ("lower", "right")))
        self.same(with_letter(lessers=(), letter="d", book=NOTHING), ((("d", ()),), ()))
        self.same(renamed(table=(), book=BOOK), BOOK)


class Letters(Case):
    def test_with_letter(self):
        for letter, lessers, wanted in [
            ("d", (), LETTERS + (("d", ()),)),
            ("z", ("a", "b", "c"), LETTERS + (("z", ("a", "b", "c")),)),
            ("x", ("b",), LETTERS + (("x", ("b",)),)),
        ]:
            self.same(with_letter(BOOK, letter, lessers), (wanted, BOOK[1]))
        book = ((("b", ()), ("d", ("b",)), ("f", ())), RULES[:3])
        for letter in "aceg":
            letters = with_letter(book, letter, ("b", "f"))[0]
            self.same(letters, tuple(sorted(book[0] + ((letter, ("b", "f")),))))
            self.same(with_letter(book, letter, ("b", "f"))[1], RULES[:3])
        self.same(with_letter(NOTHING, "m", ()), ((("m", ()),), ()))
        self.same(with_letter(NO_LETTERS, "m", ()), ((("m", ()),), NO_LETTERS[1]))

    def test_wrong_letters(self):
        for value in (None, True, 1, "", "a", "b", "c", "de", "D", "1", " ", "-", "d\n", ("d",), ["d"], (), []):
            self.unusable("letter", with_letter, BOOK, value, ())
            self.unusable("letter", with_letter, BOOK, value, None)

    def test_wrong_lessers(self):
        for value in NO_LESSERS:
            self.unusable("lessers", with_letter, BOOK, "d", value)
        self.unusable("lessers", with_letter, NOTHING, "d", ("a",))

    def test_renamed_by_hand(self):
        book = (CHAIN_LETTERS, (("put", "a", "bca", "right"), ("put", "c", "", "left"), ("lower", "left"), ("empty",)))
        for table, wanted in [
            ((), book),
            ((("a", "a"),), book),
            (
                (("a", "x"),),
                (
                    (("b", ("x",)), ("c", ("b", "x")), ("x", ())),
                    (("put", "x", "bcx", "right"), ("put", "c", "", "left"), ("lower", "left"), ("empty",)),
                ),
            ),
            (
                (("c", "a"), ("a", "b"), ("b", "c")),
                (
                    (("a", ("b", "c")), ("b", ()), ("c", ("b",))),
                    (("put", "b", "cab", "right"), ("put", "a", "", "left"), ("lower", "left"), ("empty",)),
                ),
            ),
            (
                (("b", "z"), ("c", "b")),
                (
                    (("a", ()), ("b", ("a", "z")), ("z", ("a",))),
                    (("put", "a", "zba", "right"), ("put", "b", "", "left"), ("lower", "left"), ("empty",)),
                ),
            ),
        ]:
            self.same(renamed(book, table), wanted, table)

    def test_words_of_rules_are_no_letters(self):
        book = (tuple((letter, ()) for letter in "defhlmp"), (("half", "left"), ("empty",), ("put", "l", "p", "left")))
        wanted = (tuple((letter, ()) for letter in "adefhmp"), (("half", "left"), ("empty",), ("put", "a", "p", "left")))
        self.same(renamed(book, (("l", "a"),)), wanted)

    def test_all_ways_to_call_three_letters(self):
        for new in itertools.product("abxy", repeat=3):
            table = tuple(zip("abc", new))
            if len(set(new)) < 3:
                self.unusable("table", renamed, BOOK, table)
                continue
            of = dict(table)
            book = renamed((CHAIN_LETTERS, (("put", "c", "ab", "left"),)), table)
            entries = {of[one]: tuple(sorted(of[two] for two in lessers)) for one, lessers in CHAIN_LETTERS}
            self.same(book[0], tuple(sorted(entries.items())))
            self.same(book[1], (("put", of["c"], of["a"] + of["b"], "left"),))
            self.same(renamed(BOOK, table[::-1]), renamed(BOOK, table))

    def test_wrong_tables(self):
        for value in NO_TABLES:
            self.unusable("table", renamed, BOOK, value)
        self.unusable("table", renamed, NOTHING, (("a", "b"),))
        self.same(renamed(NOTHING, ()), NOTHING)

    def test_what_is_handed_in_does_not_change(self):
        given = [["a"], [("a", "x")]]
        self.unusable("rule", with_rule, BOOK, given, at=given)
        self.unusable("k", without_rule, BOOK, given)
        self.unusable("at", moved_rule, BOOK, 0, given)
        self.unusable("lessers", with_letter, BOOK, "d", given[0])
        self.unusable("table", renamed, BOOK, given[1])
        self.same(given, [["a"], [("a", "x")]])


class Consequences(Case):
    def test_a_rule_that_is_put_in_can_be_left_out_again(self):
        for book in (BOOK, LOOSE, NO_RULES):
            for rule in RULES:
                for at in range(len(book[1]) + 1):
                    self.same(without_rule(with_rule(book, rule, at=at), at), book)
                self.same(without_rule(with_rule(book, rule), len(book[1])), book)

    def test_there_and_back(self):
        for book in BOOKS:
            self.same(mirrored(mirrored(book)), book)
            there = tuple(zip(names(book), "zcab"))
            self.assertTrue(is_book(renamed(book, there)))
            self.same(renamed(renamed(book, there), tuple((new, old) for old, new in there)), book)

    def test_things_remain_at_most_others(self):
        for book in (BOOK, DIAMOND):
            every = names(book)
            table = dict(zip(every, "zcab"))
            more = with_letter(book, "x", tuple(every))
            called = renamed(book, tuple(table.items()))
            for u, v in itertools.product(things_of(every, 2), repeat=2):
                wanted = is_at_most(book, u, v)
                self.same(is_at_most(more, u, v), wanted)
                self.same(is_at_most(mirrored(book), u, v), wanted)
                new = [["".join(table[letter] for letter in thing)] for thing in (u, v)]
                self.same(is_at_most(called, new[0][0], new[1][0]), wanted)

    def test_changed_books_are_books(self):
        for book in BOOKS:
            self.assertTrue(is_book(mirrored(book)))
            self.assertTrue(is_book(with_letter(book, "x", tuple(names(book)))))
            self.assertEqual(below(with_letter(book, "x", tuple(names(book))), "x"), set(names(book)))
        self.same(with_letter((DIAMOND_LETTERS, ()), "s", ("p",))[0][3], ("s", ("p",)))


if __name__ == "__main__":
    unittest.main()
