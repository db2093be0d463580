"""Points [34], [38], [40], [41], and (G7) in [9]: the checker of papers that two books end alike, or do not."""

import itertools
import unittest

from firstfailing.errors import InvalidPaper, NotFalling
from firstfailing.partingchecker import lets_parting
from firstfailing.partings import alike_paper
from tests.support import (
    BACK, BOOK, CHAIN, DIAMOND, DROPS, HALVES, LETTERS, LOOSE, NO_LETTERS, NO_MANNERS, NO_RULES, NO_THINGS, NOTHING,
    PUTS, RULES, Case, at_most, names, rising_tests, walk,
)
from tests.test_bookchecker import NO_PAIRS
from tests.test_bookclasses import NO_BOOKS
from tests.test_makerchecker import changed
from tests.test_orderchecker import verdict as order_verdict
from tests.test_partings import ABC_BOOKS, BOTH_MANNERS
from tests.test_rankings import LOWERS

MANNERS = ("again", "on")
ORDER = ("", "c", "a", "b", "ac", "bc")


def verdict(book, other, x, thing, manner, other_manner):
    """What the checker is to say: True, False, or the word and the place of the first entry that applies."""
    if type(thing) is not tuple or len(thing) != 2 or type(thing[0]) is not str or thing[0] not in ("causes", "alike"):
        return ("shape", -1)
    word, told = thing
    if type(told) is not tuple:
        return ("shape", -1)
    if word == "causes":
        if told == () or any(type(cause) is not str or not set(cause) <= set(names(book)) for cause in told):
            return ("shape", -1)
        if list(told) != sorted(set(told)):
            return ("shape", -1)
        for k, cause in enumerate(told):
            if cause not in at_most(book, x):
                return ("cause", k)
        ends = [walk(one, thing, x, way)[-1][0] for one, way in [(book, manner), (other, other_manner)]]
        return ("same", -1) if ends[0] == ends[1] else False
    for one, way, name in [(book, manner, "contest"), (other, other_manner, "other")]:
        right = order_verdict(one, x, told, way, name)
        if type(right) is not int:
            return right
    return True


class Checks(Case):
    def says(self, book, other, x, thing, manner="again", other_manner="again", wanted=None):
        """The checker says what it is to say, and this, if told."""
        right = verdict(book, other, x, thing, manner, other_manner)
        about = (book, other, x, thing, manner, other_manner)
        ways = {"manner": manner, "other_manner": other_manner}
        if wanted is not None:
            self.same(right, wanted, about)
        if isinstance(right, bool):
            self.same(lets_parting(book, other, x, thing, **ways), right, about)
        else:
            fields = {"word": right[0], "at": right[1]}
            self.refused(InvalidPaper, fields, lets_parting, book, other, x, thing, **ways)

    def test_the_examples(self):
        self.same(
            [lets_parting(BOOK, BACK, "bc", ("causes", ("a", "b", "c"))), lets_parting(BOOK, BACK, "c", ("alike", ("", "c")))],
            [False, True],
        )
        fields = {"word": "other", "at": ("a", "c")}
        self.refused(InvalidPaper, fields, lets_parting, BOOK, BACK, "bc", ("alike", ORDER))

    def test_all_sets_of_causes(self):
        for book, other, x in [(BOOK, BACK, "bc"), (BOOK, DROPS, "bb"), (HALVES, HALVES, "ac"), (PUTS, BOOK, "ab")]:
            for test in rising_tests(book, x):
                for manner, other_manner in BOTH_MANNERS:
                    self.says(book, other, x, test, manner, other_manner)
            things = sorted(at_most(book, x))
            for many in (1, 2, 3, len(things)):
                for row in itertools.combinations(things, many):
                    self.says(book, other, x, ("causes", row), "on", "again")

    def test_all_rows_of_few_things(self):
        for book, other, x in [(BOOK, BACK, "b"), (DROPS, BOOK, "b"), (BOOK, BACK, "ac"), (HALVES, LOWERS, "ac"), (PUTS, PUTS, "ca")]:
            for row in itertools.permutations(sorted(at_most(book, x))):
                for manner, other_manner in BOTH_MANNERS:
                    self.says(book, other, x, ("alike", row), manner, other_manner)

    def test_papers_that_are_written_are_accepted(self):
        for book, other in itertools.product(ABC_BOOKS, repeat=2):
            for x, (manner, other_manner) in itertools.product(("", "b", "cb", "bab"), BOTH_MANNERS):
                paper = alike_paper(book, other, x, manner=manner, other_manner=other_manner)
                self.says(book, other, x, paper, manner, other_manner, wanted=paper[0] == "alike")

    def test_changed_papers(self):
        for book, other, x in [(BOOK, BACK, "bc"), (BOOK, BACK, "bb"), (DROPS, BOOK, "ac"), (HALVES, HALVES, "abc")]:
            for manner, other_manner in [("again", "again"), ("again", "on")]:
                paper = alike_paper(book, other, x, manner=manner, other_manner=other_manner)
                for changed_paper in changed(paper):
                    self.says(book, other, x, changed_paper, manner, other_manner)
                for word in ("causes", "alike"):
                    self.says(book, other, x, (word, paper[1]), manner, other_manner)

    def test_shape(self):
        for book, other, x in [(BOOK, BACK, "bc"), (BOOK, BOOK, "")]:
            for value in (
                None, True, 0, "", "causes", (), [], ("causes",), ("alike",), ("causes", ("a",), ()), ["causes", ("a",)],
                ("causes", ["a"]), ("alike", [""]), ("causes", "a"), ("alike", ""), ("causes", ()), ("cause", ("a",)), ("Alike", ("",)),
                (True, ("a",)), (["causes"], ("a",)), (("causes",), ("a",)), ("causes", ("b", "a")), ("causes", ("a", "a")),
                ("causes", ("d",)), ("causes", ("a", "zz")), ("causes", ("A",)), ("causes", (1,)), ("causes", (None,)), ("causes", (["a"],)),
                ("causes", {"a"}), ("alike", None), ("only", ("a",)), ("causes", None),
            ):
                self.says(book, other, x, value, wanted=("shape", -1))

    def test_causes_that_are_not_at_most_x(self):
        for causes, k in [(("bb",), 0), (("a", "cb"), 1), (("a", "bb", "c"), 1), (("", "a", "c", "cc"), 3), (("bcc", "cb"), 0)]:
            self.says(BOOK, BACK, "bc", ("causes", causes), wanted=("cause", k))
        # They are told ahead of it that both end in one thing.
        self.says(BOOK, BOOK, "bc", ("causes", ("cb",)), wanted=("cause", 0))

    def test_causes_by_which_they_end_in_one_thing(self):
        for causes in [("a",), ("c",), ("", "a"), ("b", "c"), ("a", "b")]:
            right = verdict(BOOK, BACK, "bc", ("causes", causes), "again", "again")
            self.says(BOOK, BACK, "bc", ("causes", causes), wanted=right)
        self.says(BOOK, BACK, "bc", ("causes", ("a",)), wanted=("same", -1))
        self.says(HALVES, HALVES, "abc", ("causes", ("b", "c")), wanted=("same", -1))
        self.says(HALVES, HALVES, "abc", ("causes", ("b", "c")), other_manner="on", wanted=False)
        self.says(HALVES, HALVES, "abc", ("causes", ("b", "c")), manner="on", wanted=False)
        self.says(HALVES, HALVES, "abc", ("causes", ("b", "c")), manner="on", other_manner="on", wanted=("same", -1))

    def test_orders(self):
        back = ("", "a", "b", "c", "ac", "bc")
        self.says(BOOK, BOOK, "bc", ("alike", ORDER), wanted=True)
        self.says(BACK, BACK, "bc", ("alike", back), wanted=True)
        self.says(BOOK, BACK, "bc", ("alike", back), wanted=("contest", ("a", "c")))
        self.says(BACK, BOOK, "bc", ("alike", back), wanted=("other", ("a", "c")))
        self.says(BOOK, DROPS, "bc", ("alike", ORDER), wanted=("other", ("a",)))
        self.says(DROPS, BOOK, "bc", ("alike", ORDER), wanted=("contest", ("a",)))
        for value in ((), ("",), ORDER[1:], (*ORDER, "a"), (*ORDER[:5], "d"), (*ORDER[:5], None), (*ORDER[:5], ["bc"])):
            self.says(BOOK, BACK, "bc", ("alike", value), wanted=("things", -1))
        # All checks for book come before those for other.
        self.says(BACK, DROPS, "bc", ("alike", ORDER), wanted=("contest", ("a", "c")))

    def test_orders_of_one_book_with_two_manners(self):
        again, on = ("", "a", "b", "c", "bc", "ac", "ab", "abc"), ("", "a", "c", "b", "bc", "ac", "ab", "abc")
        for manner, other_manner in BOTH_MANNERS:
            for order in (again, on):
                self.says(HALVES, HALVES, "abc", ("alike", order), manner, other_manner)


class Refused(Case):
    def test_wrong_arguments(self):
        for thing in (("alike", ("",)), None, ("causes", ("a",)), []):
            for book in (BOOK, LOOSE):
                for value in (*[row[:2] for row in NO_BOOKS], *NO_PAIRS, LOOSE, (LETTERS, (*BOOK[1], RULES[15])), DIAMOND, CHAIN, NOTHING, NO_LETTERS):
                    self.unusable("other", lets_parting, book, value, "a", thing)
                    self.unusable("other", lets_parting, book, value, None, thing, manner=None, other_manner=None)
                for value in (*NO_THINGS, "d", "abd"):
                    self.unusable("x", lets_parting, book, BACK, value, thing)
                    self.unusable("x", lets_parting, book, BACK, value, thing, manner=None, other_manner=None)
                for value in NO_MANNERS:
                    self.unusable("manner", lets_parting, book, BACK, "a", thing, manner=value)
                    self.unusable("manner", lets_parting, book, BACK, "a", thing, manner=value, other_manner=value)
                    self.unusable("other_manner", lets_parting, book, BACK, "a", thing, other_manner=value)

    def test_books_that_do_not_fall(self):
        for rules, r in [(LOOSE[1], 0), ((*BOOK[1], RULES[15]), 2), ((RULES[10], RULES[14], RULES[16]), 1)]:
            for thing in (("alike", ("",)), None, ("causes", ("a",))):
                for manner, other_manner in BOTH_MANNERS:
                    ways = {"manner": manner, "other_manner": other_manner}
                    self.refused(NotFalling, {"rule": r}, lets_parting, (LETTERS, rules), BOOK, "", thing, **ways)

    def test_books_without_letters_or_rules(self):
        for book, other in itertools.product((NOTHING, NO_LETTERS), repeat=2):
            self.same(lets_parting(book, other, "", ("alike", ("",))), True)
            fields = {"word": "same", "at": -1}
            self.refused(InvalidPaper, fields, lets_parting, book, other, "", ("causes", ("",)))
        self.same(lets_parting(NO_RULES, DROPS, "b", ("causes", ("",))), False)

    def test_arguments_by_name(self):
        self.same(lets_parting(thing=("alike", ("", "c")), x="c", other=BACK, book=BOOK, other_manner="on", manner="again"), True)
        with self.assertRaises(TypeError):
            lets_parting(BOOK, BACK, "c", ("alike", ("", "c")), "on")

    def test_what_is_handed_in_does_not_change(self):
        given = ["causes", ["a"]]
        for thing in (given, tuple(given)):
            self.refused(InvalidPaper, {"word": "shape", "at": -1}, lets_parting, BOOK, BACK, "bc", thing)
        self.same(given, ["causes", ["a"]])


if __name__ == "__main__":
    unittest.main()
