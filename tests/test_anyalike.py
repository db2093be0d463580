"""Points [6], [7], [22], [53], [54], with what [55] says of papers: books that end alike by all tests."""

import itertools
import unittest

from firstfailing.anyalike import case_paper, parts_any
from tests.support import (
    BACK, BOOK, CHAIN, CHAIN_LETTERS, DIAMOND, DIAMOND_LETTERS, DROPS, GROWING, HALVES, LETTERS, LOOSE, NO_LETTERS,
    NO_RULES, NO_THINGS, NOTHING, PUTS, RULES, SIX, WORDS_OF_TESTS, Case, fails, has_ring, last, only_tests, reached,
    small_books, steps,
)

NO_OTHERS = (
    None, True, 1, "", "book", (), [], LETTERS, (LETTERS,), list(BOOK), (LETTERS, [], ()), (LETTERS, [("empty",)]),
    (list(LETTERS), ()), (LETTERS, ("x",)), (LETTERS, (("put", "d", "", "left"),)), (CHAIN_LETTERS, ()), NOTHING,
    NO_LETTERS, DIAMOND, (LETTERS[:2], ()), (LETTERS + (("d", ()),), ()), ((("a", ()), ("b", ()), ("c", ())), ()),
    ((("a", ("a",)), ("b", ()), ("c", ())), ()), (LETTERS, (("drop", True, "left"),)),
)


def end_by(book, x, known):
    """The last thing of shrinking from x, or a pair with the first thing asked that is not known."""
    thing = x
    while True:
        for step in steps(book, thing):
            if step not in known:
                return (step,)
            if known[step]:
                thing = step
                break
        else:
            return thing


class Alike(Case):
    def check(self, book, other, x, by_all_tests=True):
        """Both functions; which of the papers is right is found by all tests, where they are not too many."""
        test = parts_any(book, other, x)
        paper = case_paper(book, other, x)
        self.assertIs(type(paper), tuple)
        word, told = paper
        if test is not None:
            self.assertEqual(test[0], "only")
            self.check_parting(book, other, x, test)
            self.assertEqual(word, "parts")
            self.check_parting(book, other, x, told)
        else:
            self.assertEqual(word, "alike")
            self.check_nodes(book, other, x, told)
        if by_all_tests:
            alike = all(last(book, row, x) == last(other, row, x) for row in only_tests(book, other, x))
            self.assertEqual(test is None, alike, (book, other, x))

    def check_parting(self, book, other, x, test):
        self.assertIs(type(test), tuple)
        word, things = test
        self.assertIn(word, WORDS_OF_TESTS)
        self.assertIs(type(things), tuple)
        self.assertEqual(list(things), sorted(set(things)))
        self.assertTrue(fails(book, test, x))
        self.assertNotEqual(last(book, test, x), last(other, test, x), (book, other, x, test))

    def check_nodes(self, book, other, x, nodes):
        """What lets_cases asks of the nodes."""
        self.assertIs(type(nodes), tuple)
        self.assertTrue(nodes)
        known_at = {0: {x: True}}
        for k, node in enumerate(nodes):
            self.assertIs(type(node), tuple)
            self.assertIn(k, known_at, "each node is led to by one before")
            known = known_at[k]
            if node[0] == "end":
                self.same(node, ("end", node[1]))
                self.same((end_by(book, x, known), end_by(other, x, known)), (node[1], node[1]), (book, other, x, k))
                continue
            word, thing, i, j = node
            self.assertEqual(word, "ask")
            self.assertTrue(type(thing) is str and thing not in known)
            self.assertTrue(type(i) is int and type(j) is int and i != j and min(i, j) > k)
            self.assertTrue(max(i, j) < len(nodes) and i not in known_at and j not in known_at)
            known_at[i] = {**known, thing: True}
            known_at[j] = {**known, thing: False}
        self.assertEqual(sorted(known_at), list(range(len(nodes))))

    def test_the_examples(self):
        self.same(parts_any(BOOK, BOOK, "bc"), None)
        self.assertEqual(case_paper(BOOK, BACK, "bc")[0], "parts")
        self.check(BOOK, BACK, "bc")
        self.check(BOOK, BOOK, "a")

    def test_books_of_the_examples(self):
        books = [BOOK, BACK, DROPS, HALVES, PUTS, NO_RULES, GROWING]
        for book, other in itertools.product(books, repeat=2):
            for x in ("", "a", "b", "c", "ab", "bc", "ca"):
                if len(reached(book, x) | reached(other, x)) <= 9:
                    self.check(book, other, x)

    def test_pairs_of_small_books(self):
        books = [book for book in small_books(LETTERS, 1) if not has_ring(book)]
        for book, other in itertools.product(books, repeat=2):
            for x in ("b", "ca", "aab"):
                self.check(book, other, x, len(reached(book, x) | reached(other, x)) <= 6)

    def test_one_rule_more(self):
        for rule in RULES:
            for rules in [(RULES[0], rule), (rule, RULES[0]), (RULES[8], rule), (rule, RULES[8])]:
                one, two = (LETTERS, rules[:1]), (LETTERS, rules)
                if not has_ring(one) and not has_ring(two):
                    for x in ("bc", "cab"):
                        if len(reached(one, x) | reached(two, x)) <= 9:
                            self.check(one, two, x)
                            self.check(two, one, x)

    def test_other_letters(self):
        for x in ("", "z", "q", "r", "zz", "qz"):
            self.check(DIAMOND, SIX, x)
            self.check(SIX, DIAMOND, x)
            self.check(SIX, SIX, x)
        self.check(CHAIN, (CHAIN_LETTERS, (("lower", "left"),)), "c")
        self.check((CHAIN_LETTERS, (("lower", "right"),)), (CHAIN_LETTERS, (("lower", "left"),)), "c")
        self.check((CHAIN_LETTERS, (("lower", "right"),)), (CHAIN_LETTERS, (("lower", "left"),)), "bc")
        self.check(NOTHING, NO_LETTERS, "")
        self.check(NOTHING, NOTHING, "")

    def test_the_same_in_another_order(self):
        left = (LETTERS, (("drop", 1, "left"), ("empty",)))
        right = (LETTERS, (("empty",), ("drop", 1, "right")))
        twice = (LETTERS, (("drop", 1, "left"), ("drop", 1, "right"), ("half", "left"), ("drop", 1, "left")))
        for one, two in [(left, right), (right, left), (DROPS, twice), (left, twice)]:
            for x in ("", "a", "aa", "ab", "aaa", "aba", "abc"):
                self.check(one, two, x)

    def test_nine_things(self):
        eight = "a" * 8
        self.check(DROPS, (LETTERS, (("drop", 1, "right"),)), eight)
        self.check(DROPS, (LETTERS, (("drop", 1, "right"), ("drop", 2, "left"))), eight)
        self.check(HALVES, (LETTERS, (("drop", 1, "right"), ("half", "right"))), eight)
        self.check((LETTERS, (("lower", "left"),)), (LETTERS, (("lower", "right"),)), "bbb")
        self.check((LETTERS, (("lower", "left"),)), (LETTERS, (("lower", "left"), ("lower", "right"))), "bbb")

    def test_arguments_by_name(self):
        self.same(parts_any(x="bc", other=BOOK, book=BOOK), None)
        self.assertEqual(case_paper(x="bc", other=BACK, book=BOOK)[0], "parts")

    def test_wrong_books(self):
        for call in (parts_any, case_paper):
            for value in NO_OTHERS:
                self.unusable("other", call, BOOK, value, "a")
                self.unusable("other", call, BOOK, value, "d")
            self.unusable("other", call, LOOSE, None, "a")
            self.unusable("other", call, NOTHING, BOOK, "")

    def test_wrong_things(self):
        for call in (parts_any, case_paper):
            for value in (*NO_THINGS, "d", "abd"):
                self.unusable("x", call, BOOK, BACK, value)
                self.unusable("x", call, LOOSE, BACK, value)
                self.unusable("x", call, BOOK, LOOSE, value)

    def test_books_that_do_not_end(self):
        other = (LETTERS, (("put", "b", "bb", "left"), ("drop", 1, "left")))
        for call in (parts_any, case_paper):
            for x in ("", "b", "ac"):
                self.not_ending(LOOSE, call, LOOSE, BOOK, x)
                self.not_ending(LOOSE, call, BOOK, LOOSE, x)
                # Of two books the ring is that of the first one: these two have no ring in common.
                self.not_ending(LOOSE, call, LOOSE, other, x)
                self.not_ending(other, call, other, LOOSE, x)
                self.not_ending(LOOSE, call, LOOSE, LOOSE, x)

    def test_letters_are_equal_with_their_lessers(self):
        same_names = (tuple((letter, ()) for letter, _ in DIAMOND_LETTERS), ())
        for call in (parts_any, case_paper):
            self.unusable("other", call, DIAMOND, same_names, "z")
            self.unusable("other", call, same_names, DIAMOND, "z")

    def test_what_is_handed_in_does_not_change(self):
        given = [LETTERS, [["empty"]]]
        for call in (parts_any, case_paper):
            self.unusable("other", call, BOOK, given, "a")
            self.unusable("x", call, BOOK, BACK, given)
        self.same(given, [LETTERS, [["empty"]]])


if __name__ == "__main__":
    unittest.main()
