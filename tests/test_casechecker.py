"""Points [6], [7], [22], [54], [55], and (G7) in [9]: the checker of papers that books end alike, or do not."""

import itertools
import unittest

from firstfailing.anyalike import case_paper, parts_any
from firstfailing.casechecker import lets_cases
from firstfailing.errors import InvalidPaper
from tests.support import (
    BACK, BOOK, CHAIN_LETTERS, DIAMOND, DROPS, GROWING, HALVES, LETTERS, LOOSE, NO_LETTERS, NO_RULES, NO_TESTS,
    NO_THINGS, NOTHING, PUTS, SIX, WORDS_OF_TESTS, Case, fails, has_ring, names, reached, shrunk, small_books, walk,
)
from tests.test_anyalike import NO_OTHERS
from tests.test_failing import STRANGE_TESTS

LEAF = (("ask", "", 1, 2), ("end", ""), ("end", "a"))
ENDLESS = (LETTERS, (("put", "a", "c", "left"), ("put", "c", "a", "left")))
ODD_VALUES = (None, True, False, 0, -1, 1, 2, 99, "", "a", "d", "ask", "end", (), ("a",), [], ["ask"], ("end", "a"))


def end_where(book, x, known):
    """The last thing of shrinking from x where this is known; None if it asks more, or more than a hundred times."""
    unknown = []

    def answer(thing):
        if thing not in known:
            unknown.append(thing)
        return known.get(thing, False)

    walk_of = shrunk(book, x, answer, most=100)
    return None if unknown or walk_of is None else walk_of[-1][0]


def is_thing_of(book, value):
    """Whether it is a string of letters of the book."""
    return type(value) is str and all(letter in names(book) for letter in value)


def is_right_test(book, test):
    """Whether it is a test of which all things are of the letters."""
    if type(test) is not tuple or len(test) != 2 or type(test[0]) is not str or test[0] not in WORDS_OF_TESTS:
        return False
    things = test[1]
    if type(things) is not tuple or not all(is_thing_of(book, thing) for thing in things):
        return False
    return list(things) == sorted(set(things)) and (test[0] != "has" or all(len(thing) == 1 for thing in things))


def is_right_node(book, node, k, many):
    """Whether it is node k by form."""
    if type(node) is not tuple or len(node) not in (2, 4) or type(node[0]) is not str:
        return False
    if not is_thing_of(book, node[1]):
        return False
    if len(node) == 2:
        return node[0] == "end"
    i, j = node[2:]
    return node[0] == "ask" and type(i) is int and type(j) is int and i != j and min(i, j) > k and max(i, j) < many


def verdict(book, other, x, thing):
    """What the checker is to say: True, False, or the word and the place of the first entry that applies."""
    if type(thing) is not tuple or len(thing) != 2 or type(thing[0]) is not str or thing[0] not in ("parts", "alike"):
        return ("shape", -1)
    word, told = thing
    if word == "parts":
        if not is_right_test(book, told) or not fails(book, told, x):
            return ("test", -1)
        walks = [walk(one, told, x, most=100) for one in (book, other)]
        if None in walks or walks[0][-1][0] == walks[1][-1][0]:
            return ("last", -1)
        return False
    if type(told) is not tuple or told == ():
        return ("shape", -1)
    for k, node in enumerate(told):
        if not is_right_node(book, node, k, len(told)):
            return ("node", k)
    for k in range(1, len(told)):
        if [i for node in told for i in node[2:]].count(k) != 1:
            return ("led", k)
    for k, node in enumerate(told):
        known = {x: True}
        place = k
        while place > 0:
            parent = [i for i, row in enumerate(told) if place in row[2:]][0]
            known[told[parent][1]] = told[parent][2] == place
            place = parent
        if node[0] == "ask":
            if node[1] in known:
                return ("known", k)
            continue
        ends = [end_where(one, x, known) for one in (book, other)]
        if None in ends:
            return ("open", k)
        if set(ends) != {node[1]}:
            return ("last", k)
    return True


def changed(nodes):
    """The nodes with each part changed, left out, doubled or exchanged."""
    for k, node in enumerate(nodes):
        front, behind = nodes[:k], nodes[k + 1:]
        yield front + behind
        yield (*front, node, node, *behind)
        yield (*front, *behind, node)
        for value in ODD_VALUES:
            yield (*front, value, *behind)
            for p in range(len(node)):
                yield (*front, (*node[:p], value, *node[p + 1:]), *behind)
            yield (*front, (*node, value), *behind)
        for p in range(len(node)):
            yield (*front, node[:p] + node[p + 1:], *behind)
        yield (*front, list(node), *behind)
        if len(node) == 4:
            yield (*front, (*node[:2], node[3], node[2]), *behind)
            for i, j in itertools.product(range(len(nodes) + 1), repeat=2):
                yield (*front, (*node[:2], i, j), *behind)
        for thing in ("", "a", "b", "c", "ab", "ac", "bc"):
            yield (*front, (node[0], thing, *node[2:]), *behind)
    yield nodes[::-1]
    yield (("end", "a"), *nodes)


class Checks(Case):
    def says(self, book, other, x, thing, wanted=None):
        """The checker says what it is to say, and this, if told."""
        right = verdict(book, other, x, thing)
        if wanted is not None:
            self.same(right, wanted, str((book, other, x, thing))[:500])
        if isinstance(right, bool):
            self.same(lets_cases(book, other, x, thing), right, (book, other, x, thing))
        else:
            self.refused(InvalidPaper, {"word": right[0], "at": right[1]}, lets_cases, book, other, x, thing)

    def test_the_examples(self):
        self.same(
            [
                parts_any(BOOK, BOOK, "bc"),
                lets_cases(BOOK, BACK, "bc", ("parts", ("only", ("b", "bc", "c")))),
                lets_cases(BOOK, BOOK, "a", ("alike", (("ask", "", 1, 2), ("end", ""), ("end", "a")))),
            ],
            [None, False, True],
        )
        self.refused(InvalidPaper, {"word": "open", "at": 0}, lets_cases, BOOK, BOOK, "a", ("alike", (("end", "a"),)))
        self.same(lets_cases(BOOK, BACK, "bc", case_paper(BOOK, BACK, "bc")), False)

    def test_papers_that_are_written_are_accepted(self):
        books = [book for book in small_books(LETTERS, 1) if not has_ring(book)]
        books += [BOOK, BACK, HALVES, PUTS, GROWING]
        for book, other in itertools.product(books, repeat=2):
            for x in ("b", "ca", "aab"):
                if len(reached(book, x) | reached(other, x)) <= 9:
                    paper = case_paper(book, other, x)
                    self.same(lets_cases(book, other, x, paper), paper[0] == "alike", (book, other, x))
        for x in ("", "z", "q", "r", "zz", "qz"):
            for book, other in itertools.product((DIAMOND, SIX), repeat=2):
                paper = case_paper(book, other, x)
                self.same(lets_cases(book, other, x, paper), paper[0] == "alike", (book, other, x))
        for book, other in itertools.product((NOTHING, NO_LETTERS), repeat=2):
            self.same(lets_cases(book, other, "", case_paper(book, other, "")), True)

    def test_shape(self):
        for value in (
            None, True, 1, "", "parts", "alike", (), [], ("parts",), ("alike",), ("parts", (), ()), ("alike", LEAF, ()),
            ["alike", LEAF], ("alike", ()), ("alike", list(LEAF)), ("alike", None), ("alike", "ask"), ("alike", 1),
            ("alikes", LEAF), ("Alike", LEAF), (True, LEAF), (["alike"], LEAF), (("alike",), LEAF), ("", LEAF), LEAF,
            ("only", ("a",)), ("alike", {}), (None, None), (LEAF, "alike"),
        ):
            self.says(BOOK, BOOK, "a", value, ("shape", -1))

    def test_tests(self):
        for value in (*NO_TESTS, *STRANGE_TESTS, LEAF, ("causes", ("b",)), ("only", ()), ("but", ("a",)), ("has", ("b",))):
            self.says(BOOK, BACK, "a", ("parts", value), ("test", -1))
            self.says(LOOSE, ENDLESS, "a", ("parts", value), ("test", -1))
        for word, things in [("only", ("b", "bc", "c")), ("causes", ("a", "c")), ("has", ("a", "b", "c")), ("but", ("",))]:
            self.says(BOOK, BACK, "bc", ("parts", (word, things)))
        self.says(BOOK, BACK, "bc", ("parts", ("causes", ("a", "c"))), False)
        self.says(BACK, BOOK, "bc", ("parts", ("causes", ("a", "c"))), False)
        self.says(BOOK, BACK, "bc", ("parts", ("causes", ("a",))), ("last", -1))
        self.says(BOOK, BOOK, "bc", ("parts", ("but", ())), ("last", -1))

    def test_all_tests_of_few_things(self):
        things = sorted(reached(BOOK, "bc"))
        for many in range(len(things) + 1):
            for row in itertools.combinations(things, many):
                for word in ("only", "but", "causes"):
                    self.says(BOOK, BACK, "bc", ("parts", (word, row)))

    def test_changed_papers(self):
        for book, other, x in [
            (BOOK, BOOK, "a"), (BOOK, BOOK, "b"), (DROPS, BACK, "a"), (PUTS, PUTS, "ba"), (HALVES, HALVES, "ab"),
            (NO_RULES, NO_RULES, "bc"), (LOOSE, LOOSE, ""), (GROWING, GROWING, "c"),
        ]:
            nodes = case_paper(book, other, x)[1] if not has_ring(book) else (("end", ""),)
            self.says(book, other, x, ("alike", nodes), True)
            for row in changed(nodes):
                self.says(book, other, x, ("alike", row))

    def test_changed_papers_twice(self):
        for one in changed(LEAF):
            for k, two in enumerate(changed(one) if all(type(node) is tuple and node for node in one) else ()):
                if k % 7 == 0:
                    self.says(BOOK, BACK, "a", ("alike", two))

    def test_nodes_by_hand(self):
        for nodes, wanted in [
            ((("ask", "", 1, 2), ("end", ""), ("end", "a")), True),
            ((("ask", "", 2, 1), ("end", "a"), ("end", "")), True),
            ((("end", "a"),), ("open", 0)),
            ((("ask", "", 1, 2), ("end", "a"), ("end", "a")), ("last", 1)),
            ((("ask", "", 1, 2), ("end", ""), ("end", "")), ("last", 2)),
            ((("ask", "a", 1, 2), ("end", ""), ("end", "a")), ("known", 0)),
            ((("ask", "b", 1, 2), ("end", ""), ("end", "a")), ("open", 1)),
            ((("ask", "", 1, 2), ("ask", "", 3, 4), ("end", "a"), ("end", ""), ("end", "")), ("known", 1)),
            ((("ask", "b", 1, 2), ("ask", "", 3, 4), ("end", "a"), ("end", ""), ("end", "a")), ("open", 2)),
            ((("ask", "", 1, 1), ("end", "")), ("node", 0)),
            ((("ask", "", 0, 1), ("end", "")), ("node", 0)),
            ((("ask", "", 1, 3), ("end", ""), ("end", "a")), ("node", 0)),
            ((("ask", "d", 1, 2), ("end", ""), ("end", "a")), ("node", 0)),
            ((("ask", "", True, 2), ("end", ""), ("end", "a")), ("node", 0)),
            ((("ask", "", 1, 2), ("end", ""), ("end", "d")), ("node", 2)),
            ((("ask", "", 1, 2), ("end", ""), ("end", "a", 1)), ("node", 2)),
            ((("ask", "", 1, 2), ("end", ""), ("end", "a"), ("end", "a")), ("led", 3)),
            ((("ask", "", 1, 2), ("ask", "b", 2, 3), ("end", ""), ("end", "")), ("led", 2)),
            ((("ask", "", 2, 3), ("end", "a"), ("end", ""), ("end", "a")), ("led", 1)),
            ((("end", "a"), ("end", "a")), ("led", 1)),
            ((("ask", "", 1, 2), ("ask", "b", 2, 1), ("end", "")), ("node", 1)),
        ]:
            self.says(BOOK, BACK, "a", ("alike", nodes), wanted)

    def test_all_nodes_are_checked_ahead_of_what_leads_to_them(self):
        self.says(BOOK, BACK, "a", ("alike", (("end", "b"), ("end", "a"), ("end", "d"))), ("node", 2))
        self.says(BOOK, BACK, "a", ("alike", (("end", "b"), ("end", "a"), ("end", "b"))), ("led", 1))
        nodes = (("ask", "a", 1, 2), ("end", "b"), ("end", "b"), ("end", "b"))
        self.says(BOOK, BACK, "a", ("alike", nodes), ("led", 3))

    def test_what_the_two_books_ask_and_where_they_end(self):
        book, other = NO_RULES, (LETTERS, (("empty",),))
        for one, two in [(book, other), (other, book)]:
            self.says(one, two, "a", ("alike", (("end", "a"),)), ("open", 0))
            self.says(one, two, "a", ("alike", LEAF), ("last", 1))
            self.says(one, two, "a", ("alike", (LEAF[0], ("end", "a"), ("end", "a"))), ("last", 1))
            self.says(one, two, "", ("alike", (("end", ""),)), True)
        # Each book asks what is known, but they end in unlike things.
        nodes = (("ask", "b", 1, 2), ("ask", "c", 3, 4), ("end", "bc"), ("end", "b"), ("end", "b"))
        self.says(DROPS, (LETTERS, (("drop", 1, "right"),)), "bc", ("alike", nodes))

    def test_a_hundred_tries_and_no_more(self):
        grows = (LETTERS, (("put", "b", "c", "left"), ("drop", 1, "left")))
        for many in (99, 100, 101, 102):
            x = "a" * many
            wanted = False if many <= 100 else ("last", -1)
            for one, two in [(DROPS, NO_RULES), (NO_RULES, DROPS), (grows, NO_RULES)]:
                self.says(one, two, x, ("parts", ("but", ())), wanted)
            nodes = []
            for k in range(many):
                nodes.append(("ask", "a" * (many - k - 1), 2 * k + 2, 2 * k + 1))
                nodes.append(("end", "a" * (many - k)))
            nodes.append(("end", ""))
            self.says(DROPS, DROPS, x, ("alike", tuple(nodes)), True if many <= 100 else ("open", 201))

    def test_tries_that_fail_and_that_pass_count(self):
        letters = tuple((letter, ()) for letter in "abcdefghijklmnopqrst")
        drops = (letters, (("drop", 1, "left"),))
        nothing = (letters, ())
        x = "abcdefghijklmnopqrst"
        # The k-th thing of 20 letters is asked behind k tries; the last one is reached behind 20 + 19 and so on.
        rows = tuple(sorted(x[:k] for k in range(16, 21)))
        self.says(drops, nothing, x, ("parts", ("only", rows)))
        self.says(drops, nothing, x, ("parts", ("only", tuple(sorted(x[:k] for k in range(15, 21))))))
        for low in range(10, 20):
            test = ("only", tuple(sorted(x[:k] for k in range(low, 21))))
            tries = sum(range(low + 1, 21)) + low
            self.says(drops, nothing, x, ("parts", test), False if tries <= 100 else ("last", -1))

    def test_books_that_do_not_end(self):
        for book, other in [(LOOSE, BOOK), (BOOK, LOOSE), (ENDLESS, DROPS), (LOOSE, ENDLESS)]:
            for x in ("a", "c", "ca"):
                self.says(book, other, x, ("parts", ("has", ("a", "c"))), ("last", -1))
                self.says(book, other, x, ("parts", ("but", ())), ("last", -1))
                self.says(book, other, x, ("parts", ("only", (x,))), ("last", -1))
        self.says(ENDLESS, NO_RULES, "a", ("parts", ("only", ("a",))), ("last", -1))
        self.says(ENDLESS, DROPS, "a", ("parts", ("only", ("", "a"))), False)
        nodes = (("ask", "c", 1, 2), ("end", "a"), ("end", "a"))
        self.says(ENDLESS, ENDLESS, "a", ("alike", nodes), ("open", 1))
        self.says(ENDLESS, ENDLESS, "a", ("alike", (("ask", "c", 2, 1), *nodes[1:])), ("open", 2))
        self.says(ENDLESS, ENDLESS, "b", ("alike", (("end", "b"),)), True)

    def test_wrong_books_and_things(self):
        for thing in (("alike", LEAF), None, ("parts", ("only", ("a",)))):
            for value in NO_OTHERS:
                self.unusable("other", lets_cases, BOOK, value, "a", thing)
                self.unusable("other", lets_cases, BOOK, value, "d", thing)
            for value in (*NO_THINGS, "d", "abd"):
                self.unusable("x", lets_cases, BOOK, BACK, value, thing)
                self.unusable("x", lets_cases, LOOSE, BACK, value, thing)
        flat = (tuple((letter, ()) for letter, _ in CHAIN_LETTERS), ())
        self.unusable("other", lets_cases, (CHAIN_LETTERS, ()), flat, "a", None)

    def test_arguments_by_name(self):
        self.same(lets_cases(thing=("alike", LEAF), x="a", other=BACK, book=BOOK), True)

    def test_what_is_handed_in_does_not_change(self):
        given = ["alike", [["ask", "", 1, 2]]]
        self.refused(InvalidPaper, {"word": "shape", "at": -1}, lets_cases, BOOK, BOOK, "a", given)
        self.refused(InvalidPaper, {"word": "test", "at": -1}, lets_cases, BOOK, BOOK, "a", ("parts", given))
        self.refused(InvalidPaper, {"word": "node", "at": 0}, lets_cases, BOOK, BOOK, "a", ("alike", (given,)))
        self.same(given, ["alike", [["ask", "", 1, 2]]])


if __name__ == "__main__":
    unittest.main()
