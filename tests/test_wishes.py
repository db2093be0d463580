"""Points [22], [34], [45], [46], and the consequences behind it: wishes, and whether the best is found."""

import itertools
import unittest

from firstfailing.completeness import finds_least
from firstfailing.errors import NotFalling, NotUsable
from firstfailing.wishes import Wish, is_best, worst_causes
from tests.support import (
    BACK, BOOK, CHAIN, CHAIN_LETTERS, DIAMOND, DIAMOND_LETTERS, DROPS, HALVES, LETTERS, LOOSE, NO_LETTERS, NO_MANNERS,
    NO_RULES, NO_THINGS, NOTHING, PUTS, RULES, Case, are_weights, at_most, fails, is_falling_book, names, rising_tests,
    small_books, things_of, walk,
)
from tests.test_orderchecker import causes_at_most, contest_of
from tests.test_rankings import FALLING, LOWERS

MANNERS = ("again", "on")
CALLS = (is_best, worst_causes)
WISHES = [Wish(LETTERS, *row) for row in [(1, 2, 3), (1, 2, 1), (1, 2, 2), (2, 3, 1), (1, 9, 4), (5, 6, 5), (1, 10 ** 59, 7)]]
NO_LETTER_ROWS = (
    None, True, 0, "", "abc", [], ["a"], ("a",), ("a", "b"), (("a",),), (("a", ["b"]),), (("b", ()), ("a", ())), (("a", ()), ("a", ())),
    (("a", ("b",)),), (("a", ("a",)),), (("a", ("b",)), ("b", ("a",))), (("ab", ()),), (("A", ()),), (("a", None),), (("a", ("b", "a")),),
    [("a", ())], (["a", ()],), (LETTERS, ()), (("a", ()), None),
)


def key_of(wish, thing):
    """The sum of the weights of the letters, and the thing."""
    weights = dict(zip([letter for letter, _ in wish.letters], wish.weights))
    return (sum(weights[letter] for letter in thing), thing)


def worst(book, x, wish, manner):
    """The first set of one or two causes by which another thing than the best one is found."""
    for causes in causes_at_most(book, x):
        failing = [thing for thing in at_most(book, x) if fails(book, ("causes", causes), thing)]
        if contest_of(book, x, causes, manner) != min(failing, key=lambda thing: key_of(wish, thing)):
            return causes
    return None


class Wishes(Case):
    def test_the_examples(self):
        wish = Wish(LETTERS, 1, 2, 3)
        self.same(
            [
                wish.key("bc"), wish.best(("ac", "bb")), Wish.plain(LETTERS).weights, is_best(BACK, "bc", wish),
                worst_causes(BOOK, "bc", wish), worst_causes(DROPS, "bb", wish),
            ],
            [(5, "bc"), "ac", (1, 2, 1), True, ("a", "c"), ("a",)],
        )

    def test_what_it_was_made_of(self):
        wish = Wish(LETTERS, 1, 2, 3)
        self.same([wish.letters, wish.weights], [LETTERS, (1, 2, 3)])
        self.same([Wish(()).letters, Wish(()).weights, len(Wish(())), list(Wish(()))], [(), (), 0, []])
        self.same(Wish(CHAIN_LETTERS, 1, 2, 10 ** 59).weights, (1, 2, 10 ** 59))

    def test_keys(self):
        for wish in WISHES:
            for thing in things_of("abc", 4):
                self.same(wish.key(thing), key_of(wish, thing))
            for value in (*NO_THINGS, "d", "abd"):
                self.unusable("thing", wish.key, value)
        self.same([Wish(()).key(""), Wish(LETTERS, 1, 2, 10 ** 59).key("ccb")], [(0, ""), (2 * 10 ** 59 + 2, "ccb")])

    def test_best_things(self):
        for wish in WISHES:
            for many in (1, 2, 3):
                for row in itertools.combinations(sorted(things_of("abc", 2)), many):
                    self.same(wish.best(row), min(row, key=lambda thing: key_of(wish, thing)))
        self.same(Wish(LETTERS, 1, 2, 3).best(("abc",)), "abc")
        # Of equal sums the least string is best.
        self.same([Wish(LETTERS, 1, 2, 1).best(("b", "ca", "cc")), Wish(LETTERS, 1, 2, 3).best(("aaa", "ab", "ba", "c"))], ["b", "aaa"])
        self.same(Wish(LETTERS, 1, 2, 2).best(("b", "c")), "b")

    def test_wrong_sets_of_things(self):
        for wish in (*WISHES, Wish.plain(LETTERS)):
            for value in (
                None, True, 0, "", "a", (), [], ["a"], ("b", "a"), ("a", "a"), ("a", "d"), ("d",), ("A",), ("a", 1), (None,), (("a",),), ("", "a", "ad"),
                {"a"}, ("a", ["b"]), LETTERS,
            ):
                self.unusable("things", wish.best, value)
        self.unusable("things", Wish(()).best, ())
        self.same(Wish(()).best(("",)), "")

    def test_weights_of_letters(self):
        wish = Wish(LETTERS, 4, 7, 5)
        self.same([wish["a"], wish["b"], wish["c"]], [4, 7, 5])
        for value in (*NO_THINGS, "", "d", "ab", "aa", ("a", "b"), b"a"):
            self.unusable("letter", lambda k: wish[k], value)
        self.unusable("letter", lambda k: Wish(())[k], "a")

    def test_things_letters_and_numbers(self):
        for wish in WISHES:
            for thing in things_of("abc", 3):
                self.same(thing in wish, True)
            for value in (*NO_THINGS, "d", "abd", wish, LETTERS):
                self.same(value in wish, False)
            self.same([len(wish), list(wish), [letter for letter in wish], bool(wish)], [3, ["a", "b", "c"], ["a", "b", "c"], True])
        self.same(["" in Wish(()), "a" in Wish(()), bool(Wish(()))], [True, False, False])
        self.same(dict(zip(WISHES[0], WISHES[0].weights)), {"a": 1, "b": 2, "c": 3})

    def test_equality(self):
        for one, two in itertools.product(range(len(WISHES)), repeat=2):
            self.same([WISHES[one] == WISHES[two], WISHES[one] != WISHES[two]], [one == two, one != two])
        self.same(Wish(LETTERS, 1, 2, 3) == Wish((("a", ()), ("b", ("a",)), ("c", ())), 1, 2, 3), True)
        plain = (("a", ()), ("b", ()), ("c", ()))
        self.same([Wish(LETTERS, 1, 2, 3) == Wish(plain, 1, 2, 3), Wish(plain, 1, 2, 3) == Wish(LETTERS, 1, 2, 3)], [False, False])
        self.same(Wish(plain[:2], 1, 2) == Wish((("a", ()), ("c", ())), 1, 2), False)
        for value in (None, True, 0, "", (1, 2, 3), [1, 2, 3], LETTERS, (LETTERS, (1, 2, 3)), {}):
            self.same([WISHES[0] == value, value == WISHES[0], WISHES[0] != value], [False, False, True])

        class Other(Wish):
            """A derived class."""

        self.same([Other(LETTERS, 1, 2, 3) == WISHES[0], WISHES[0] == Other(LETTERS, 1, 2, 3)], [True, True])

    def test_plain(self):
        for letters in (LETTERS, CHAIN_LETTERS, DIAMOND_LETTERS, (), (("a", ()), ("b", ()))):
            wish = Wish.plain(letters)
            self.assertIs(type(wish), Wish)
            self.same(wish.letters, letters)
            book = (letters, (("lower", "left"),))
            self.assertTrue(are_weights(book, wish.weights))
            for k in range(len(letters)):
                for less in range(1, wish.weights[k]):
                    self.assertFalse(any(
                        are_weights(book, (*row[:k], less, *row[k + 1:]))
                        for row in itertools.product(range(1, 6), repeat=len(letters))
                    ))
        self.same(Wish.plain(DIAMOND_LETTERS).weights, (4, 2, 3, 1))
        self.same(Wish.plain(letters=LETTERS) == Wish(LETTERS, 1, 2, 1), True)

    def test_what_is_less_has_the_lesser_key(self):
        for wish in (*WISHES, Wish.plain(DIAMOND_LETTERS), Wish(CHAIN_LETTERS, 1, 2, 3)):
            book = (wish.letters, ())
            for v in things_of(names(book), 2):
                for u in at_most(book, v) - {v}:
                    self.assertLess(wish.key(u), wish.key(v))

    def test_it_never_changes(self):
        wish = Wish(LETTERS, 1, 2, 3)
        for name in ("letters", "weights"):
            with self.assertRaises(AttributeError):
                setattr(wish, name, ())
        with self.assertRaises(TypeError):
            wish["a"] = 5
        self.unusable("things", wish.best, ("b", "a"))
        self.same([wish.letters, wish.weights], [LETTERS, (1, 2, 3)])

    def test_the_listed_methods_are_defined_in_the_class_itself(self):
        for name in (
            "__init__", "letters", "weights", "key", "best", "plain", "__getitem__", "__contains__", "__len__", "__iter__", "__eq__",
        ):
            self.assertIn(name, vars(Wish))


class Best(Case):
    def check(self, book, x, wish, manner, all_tests=True):
        """Both functions, by causes and by all rising tests."""
        wanted = worst(book, x, wish, manner)
        about = (book, x, wish.weights, manner)
        self.same(worst_causes(book, x, wish, manner=manner), wanted, about)
        self.same(is_best(book, x, wish, manner=manner), wanted is None, about)
        if all_tests:
            ends_best = all(
                walk(book, test, x, manner)[-1][0]
                == min((u for u in at_most(book, x) if fails(book, test, u)), key=lambda thing: key_of(wish, thing))
                for test in rising_tests(book, x)
            )
            self.same(is_best(book, x, wish, manner=manner), ends_best, about)

    def test_books_and_things(self):
        for book in (BOOK, BACK, DROPS, HALVES, PUTS, NO_RULES, LOWERS):
            for x, wish, manner in itertools.product(("", "a", "b", "bc", "cb", "ab", "ac"), WISHES, MANNERS):
                self.check(book, x, wish, manner)

    def test_longer_things(self):
        for book, x in [(BOOK, "bcb"), (BACK, "cab"), (HALVES, "abca"), (LOWERS, "bbc")]:
            for wish, manner in itertools.product(WISHES, MANNERS):
                self.check(book, x, wish, manner, False)

    def test_small_books(self):
        for book in small_books(LETTERS):
            if is_falling_book(book):
                for wish in WISHES[:2]:
                    self.check(book, "bc", wish, "again", False)

    def test_other_letters(self):
        for book, weights in [(DIAMOND, (4, 2, 3, 1)), (DIAMOND, (9, 2, 5, 1)), (CHAIN, (1, 2, 3))]:
            for x, manner in itertools.product(things_of(names(book), 1), MANNERS):
                self.check(book, x, Wish(book[0], *weights), manner)
        for book in (NOTHING, NO_LETTERS):
            self.same([is_best(book, "", Wish(())), worst_causes(book, "", Wish(()))], [True, None])

    def test_manners(self):
        plain = tuple((letter, ()) for letter in "abc")
        book = (plain, HALVES[1])
        seen = set()
        for row in itertools.permutations((1, 2, 3)):
            for manner in MANNERS:
                self.check(book, "abc", Wish(plain, *row), manner, False)
                seen.add((manner, worst_causes(book, "abc", Wish(plain, *row), manner=manner)))
        self.assertGreater(len(seen), 2)
        self.same(worst_causes(BOOK, "bc", WISHES[0]), worst_causes(BOOK, "bc", WISHES[0], manner="again"))

    def test_consequences(self):
        for book in FALLING:
            if book[0] == LETTERS:
                for x, wish, manner in itertools.product(things_of("abc", 2), WISHES, MANNERS):
                    best = is_best(book, x, wish, manner=manner)
                    self.assertEqual(best, worst_causes(book, x, wish, manner=manner) is None)
                    if best:
                        self.assertTrue(finds_least(book, x, manner=manner))


class Refused(Case):
    def test_wrong_letters(self):
        for value in NO_LETTER_ROWS:
            self.unusable("letters", Wish, value)
            self.unusable("letters", Wish, value, 1, 2)
            self.unusable("letters", Wish, value, None)
            self.unusable("letters", Wish.plain, value)

    def test_other_numbers_of_weights(self):
        for row in [(), (1,), (1, 2), (1, 2, 3, 4), (None,), (None, None, None, None), ((1, 2, 3),), ([1, 2, 3],)]:
            self.refused(NotUsable, {"word": "weights", "at": -1}, Wish, LETTERS, *row)
        self.refused(NotUsable, {"word": "weights", "at": -1}, Wish, (), 1)

    def test_wrong_weights(self):
        for value in (0, -1, True, False, None, "", "1", (1,), [1], -10 ** 59):
            for k in range(3):
                row = [1, 2, 3]
                row[k] = value
                self.refused(NotUsable, {"word": "weights", "at": k}, Wish, LETTERS, *row)
                # All numbers are looked at ahead of what is less than what.
                row = [5, 5, 5]
                row[k] = value
                self.refused(NotUsable, {"word": "weights", "at": k}, Wish, LETTERS, *row)
                row[2] = None
                self.refused(NotUsable, {"word": "weights", "at": k}, Wish, LETTERS, *row)

    def test_weights_that_do_not_rise_with_the_letters(self):
        for row in [(1, 1, 1), (2, 1, 1), (3, 3, 9), (10 ** 59, 10 ** 59, 1)]:
            self.refused(NotUsable, {"word": "weights", "at": 1}, Wish, LETTERS, *row)
        for row, k in [((1, 1, 1), 1), ((1, 2, 2), 2), ((1, 2, 1), 2), ((2, 1, 2), 1), ((5, 6, 6), 2), ((5, 5, 5), 1)]:
            self.refused(NotUsable, {"word": "weights", "at": k}, Wish, CHAIN_LETTERS, *row)
        # p goes to q and r, r to q and z, q to z: the first letter that is not greater is told.
        for row, k in [((1, 1, 1, 1), 0), ((4, 1, 3, 1), 1), ((4, 2, 2, 1), 2), ((3, 2, 3, 1), 0), ((4, 2, 3, 2), 1)]:
            self.refused(NotUsable, {"word": "weights", "at": k}, Wish, DIAMOND_LETTERS, *row)

    def test_wrong_arguments(self):
        other = Wish((("a", ()), ("b", ()), ("c", ())), 1, 2, 3)
        for call in CALLS:
            for book in (BOOK, LOOSE):
                for value in (*NO_THINGS, "d", "abd"):
                    self.unusable("x", call, book, value, WISHES[0])
                    self.unusable("x", call, book, value, None, manner=None)
                for value in (None, True, 0, "", (), [], (1, 2, 3), LETTERS, (LETTERS, (1, 2, 3)), other, Wish(()), Wish(LETTERS[:2], 1, 2), BOOK):
                    self.unusable("wish", call, book, "a", value)
                    self.unusable("wish", call, book, "a", value, manner=None)
                for value in NO_MANNERS:
                    self.unusable("manner", call, book, "a", WISHES[0], manner=value)

    def test_books_that_do_not_fall(self):
        for call in CALLS:
            for rules, r in [(LOOSE[1], 0), ((*BOOK[1], RULES[15]), 2), ((RULES[10], RULES[14], RULES[16]), 1)]:
                for manner in MANNERS:
                    self.refused(NotFalling, {"rule": r}, call, (LETTERS, rules), "b", WISHES[0], manner=manner)

    def test_arguments_by_name(self):
        self.same(is_best(wish=WISHES[0], x="bc", book=BACK), True)
        self.same(worst_causes(wish=WISHES[0], manner="again", x="bc", book=BOOK), ("a", "c"))
        self.same(Wish(letters=()) == Wish(()), True)
        self.same([WISHES[0].key(thing="b"), WISHES[0].best(things=("b", "c"))], [(2, "b"), "b"])
        for call in CALLS:
            with self.assertRaises(TypeError):
                call(BOOK, "a", WISHES[0], "on")

    def test_what_is_handed_in_does_not_change(self):
        given = [["a", []], [1]]
        self.unusable("letters", Wish, given, *given)
        self.unusable("things", WISHES[0].best, given)
        self.unusable("thing", WISHES[0].key, given)
        self.unusable("wish", is_best, BOOK, "a", given)
        self.same(given, [["a", []], [1]])


if __name__ == "__main__":
    unittest.main()
