"""Points [7], [22], [28], [29]: the checker of walks."""

import itertools
import unittest

from firstfailing.errors import InvalidPaper
from firstfailing.walkchecker import lets_walk
from firstfailing.walking import tries_of, walk_of
from tests.support import (
    BACK, BOOK, DIAMOND, GROWING, HALVES, LETTERS, LOOSE, NO_BOOLS, NO_LETTERS, NO_MANNERS, NO_RULES, NO_TESTS,
    NO_THINGS, NOTHING, PUTS, RULES, SIX, Case, names, things_of, walk,
)
from tests.test_makerchecker import changed
from tests.test_walking import BOTH, UPWARD, WAYS, tests_for


def verdict(rows, thing):
    """What the checker is to say of a value, if these rows are the walk."""
    if type(thing) is not tuple or thing == () or any(type(part) is not tuple or len(part) != 2 for part in thing):
        return ("shape", -1)
    for k, (place, tries) in enumerate(thing):
        if k >= len(rows) or type(place) is not str or place != rows[k][0]:
            return ("thing", k)
        if type(tries) is not int or tries != rows[k][1]:
            return ("tries", k)
    return ("end", -1) if len(thing) < len(rows) else sum(row[1] for row in rows)


class Checks(Case):
    def says(self, book, test, x, thing, manner="again", notes=False, wanted=None):
        """The checker says what it is to say, and this, if told."""
        right = verdict(walk(book, test, x, manner, notes), thing)
        about = (book, test, x, thing, manner, notes)
        if wanted is not None:
            self.same(right, wanted, about)
        if type(right) is int:
            self.same(lets_walk(book, test, x, thing, manner=manner, notes=notes), right, about)
        else:
            fields = {"word": right[0], "at": right[1]}
            self.refused(InvalidPaper, fields, lets_walk, book, test, x, thing, manner=manner, notes=notes)

    def test_the_example(self):
        self.same(lets_walk(BACK, BOTH, "bc", (("bc", 1), ("b", 2), ("a", 1))), 4)

    def test_walks_are_accepted(self):
        for book in (BOOK, BACK, HALVES, PUTS, GROWING, SIX, UPWARD, NO_RULES, NOTHING, NO_LETTERS):
            for x in things_of(names(book), 2):
                for test, (manner, notes) in itertools.product(list(tests_for(book, x))[::3], WAYS):
                    rows = walk_of(book, test, x, manner=manner, notes=notes)
                    self.says(book, test, x, rows, manner, notes, tries_of(book, test, x, manner=manner, notes=notes))

    def test_the_walk_of_another_way(self):
        test = ("causes", ("aa",))
        for (manner, notes), (other, noted) in itertools.product(WAYS, repeat=2):
            self.says(BOOK, test, "bb", walk(BOOK, test, "bb", other, noted), manner, notes)
        plain = walk(BOOK, test, "bb")
        self.says(BOOK, test, "bb", plain, "on", False, ("tries", 1))
        self.says(BOOK, test, "bb", plain, "again", True, ("tries", 1))
        self.says(BOOK, BOTH, "bc", walk(BACK, BOTH, "bc"), wanted=("thing", 1))

    def test_changed_walks(self):
        for book, test, x in [
            (BACK, BOTH, "bc"), (BOOK, ("causes", ("aa",)), "bb"), (GROWING, ("has", ("b", "c")), "cc"), (BOOK, ("but", ()), ""),
            (HALVES, ("only", ("abc", "c")), "abc"), (DIAMOND, ("causes", ("r",)), "pp"),
        ]:
            for manner, notes in WAYS:
                for other in changed(walk(book, test, x, manner, notes)):
                    self.says(book, test, x, other, manner, notes)

    def test_shape(self):
        for value in (
            None, True, 0, 4, "", "bc", (), [], [("bc", 1), ("b", 2), ("a", 1)], ("bc", 1), ("bc", "b", "a"), (("bc",),), (("bc", 1, 1),),
            (["bc", 1],), (("bc", 1), ["b", 2], ("a", 1)), (("bc", 1), ("b", 2), "a1"), (("bc", 1), ("b", 2), ("a", 1), None), ((),), (None,),
        ):
            self.says(BACK, BOTH, "bc", value, wanted=("shape", -1))

    def test_places(self):
        rows = (("bc", 1), ("b", 2), ("a", 1))
        for k, row in enumerate(rows):
            front, behind = rows[:k], rows[k + 1:]
            for value in ("", "c", "ab", None, True, 1, ("b",), ["b"], ("b", 2), "bc" if k else "b"):
                self.says(BACK, BOTH, "bc", (*front, (value, row[1]), *behind), wanted=("thing", k))
                self.says(BACK, BOTH, "bc", (*front, (value, None), *behind), wanted=("thing", k))
            for value in (row[1] + 1, row[1] - 1, -row[1], 10 ** 59, None, True if row[1] == 1 else False, "", str(row[1]), (row[1],), [row[1]]):
                self.says(BACK, BOTH, "bc", (*front, (row[0], value), *behind), wanted=("tries", k))
                self.says(BACK, BOTH, "bc", (*front, (row[0], value)), wanted=("tries", k))

    def test_a_place_too_many_and_one_that_is_missing(self):
        rows = (("bc", 1), ("b", 2), ("a", 1))
        for more in [("", 0), ("a", 0), ("a", 1), ("b", 2), (None, None)]:
            self.says(BACK, BOTH, "bc", (*rows, more), wanted=("thing", 3))
            self.says(BACK, BOTH, "bc", (*rows, more, more), wanted=("thing", 3))
        self.says(BACK, BOTH, "bc", rows[:2], wanted=("end", -1))
        self.says(BACK, BOTH, "bc", rows[:1], wanted=("end", -1))
        self.says(BACK, BOTH, "bc", rows[1:], wanted=("thing", 0))
        self.says(BACK, BOTH, "bc", (rows[0], rows[2]), wanted=("thing", 1))
        self.says(BACK, BOTH, "bc", (rows[0], rows[0], *rows[1:]), wanted=("thing", 1))

    def test_the_first_entry_is_told(self):
        self.says(BACK, BOTH, "bc", (("bc", 2), ("c", 2)), wanted=("tries", 0))
        self.says(BACK, BOTH, "bc", (("bb", 2), ("c", 2)), wanted=("thing", 0))
        self.says(BACK, BOTH, "bc", (("bc", 1), ("b", 3), ("c", 1), ("a", 1)), wanted=("tries", 1))
        self.says(BACK, BOTH, "bc", (("bc", 1), ("b", 3)), wanted=("tries", 1))
        self.says(BACK, BOTH, "bb", (("bb", 9), None), wanted=("shape", -1))

    def test_no_tries_is_not_false(self):
        self.says(BACK, BOTH, "bc", (("bc", 1), ("b", 2), ("a", 0)), notes=True, wanted=3)
        self.says(BACK, BOTH, "bc", (("bc", 1), ("b", 2), ("a", False)), notes=True, wanted=("tries", 2))
        self.says(BACK, BOTH, "bc", (("bc", True), ("b", 2), ("a", 0)), notes=True, wanted=("tries", 0))
        self.says(NO_RULES, ("but", ()), "ab", (("ab", 0),), wanted=0)


class Refused(Case):
    def test_wrong_arguments(self):
        for thing in ((("a", 1), ("", 0)), None, (), [("a", 1)]):
            for book in (BOOK, LOOSE):
                for value in (*NO_TESTS, ("causes", ("d",)), ("has", ("d",))):
                    self.unusable("test", lets_walk, book, value, "a", thing)
                    self.unusable("test", lets_walk, book, value, None, thing, manner=None, notes=None)
                for value in (*NO_THINGS, "d", "abd"):
                    self.unusable("x", lets_walk, book, ("but", ()), value, thing)
                    self.unusable("x", lets_walk, book, ("but", ()), value, thing, manner=None, notes=None)
                self.unusable("x", lets_walk, book, ("causes", ("b",)), "ac", thing)
                self.unusable("x", lets_walk, book, ("only", ("b",)), "a", thing, manner=None)
                for value in NO_MANNERS:
                    self.unusable("manner", lets_walk, book, ("but", ()), "a", thing, manner=value)
                    self.unusable("manner", lets_walk, book, ("but", ()), "a", thing, manner=value, notes=value)
                for value in NO_BOOLS:
                    self.unusable("notes", lets_walk, book, ("but", ()), "a", thing, notes=value)

    def test_books_that_do_not_end(self):
        for book in [LOOSE, (LETTERS, (("put", "a", "aa", "left"),)), (LETTERS, (RULES[14], RULES[9]))]:
            for x, (manner, notes) in itertools.product(("", "a", "cb"), WAYS):
                for thing in (((x, 0),), None, ()):
                    self.not_ending(book, lets_walk, book, ("but", ()), x, thing, manner=manner, notes=notes)

    def test_arguments_by_name(self):
        self.same(lets_walk(thing=(("c", 1), ("", 0)), x="c", test=("but", ()), book=BOOK, notes=True, manner="on"), 1)
        with self.assertRaises(TypeError):
            lets_walk(BOOK, ("but", ()), "c", (("c", 1), ("", 0)), "on")

    def test_what_is_handed_in_does_not_change(self):
        given = [("c", 1), ["", 0]]
        for thing in (given, tuple(given)):
            self.refused(InvalidPaper, {"word": "shape", "at": -1}, lets_walk, BOOK, ("but", ()), "c", thing)
        self.same(given, [("c", 1), ["", 0]])


if __name__ == "__main__":
    unittest.main()
