"""Points [22], [60], [61], and (G6) in [9]: whether steps keep what a maker makes, for things of all lengths."""

import itertools
import random
import unittest

from firstfailing.keeping import is_kept, lost_step
from firstfailing.makers import Maker
from firstfailing.walking import last_of
from tests.support import (
    BACK, BOOK, CHAIN, DIAMOND, DROPS, GROWING, HALVES, LETTERS, LOOSE, NO_LETTERS, NO_RULES, NOTHING, PUTS, RULES, SIX,
    Case, fails, is_falling_book, names, reached, small_books, steps, things_of,
)
from tests.test_makerchecker import ABC, FREE, LONG, PAIRS

ALL_RULES = (
    *RULES, ("drop", 4, "right"), ("lower", "right"), ("put", "a", "cab", "left"), ("put", "c", "bbb", "right"), ("put", "b", "", "left"),
)
# Things of a row: with at most three letters; with an even number; a's and then b's; those without aa; c at the end alone.
UP_TO_THREE = tuple(((("a", k + 1, 1), ("b", k + 1, 1), ("c", k + 1, 1)) if k < 3 else (), 1) for k in range(4))
EVEN = (((("a", 1, 1), ("b", 1, 1), ("c", 1, 1)), 1), ((("a", 0, 1), ("b", 0, 1), ("c", 0, 1)), 0))
SORTED = (((("a", 0, 1), ("b", 1, 1)), 1), ((("b", 1, 1),), 1))
NO_DOUBLE_A = (((("a", 1, 1), ("b", 0, 1), ("c", 0, 1)), 1), ((("b", 0, 1), ("c", 0, 1)), 1))
CLOSED = (((("a", 0, 1), ("b", 0, 1), ("c", 1, 1)), 0), ((), 1))
MAKERS = [Maker(ABC, states) for states in (
    PAIRS, FREE, LONG, UP_TO_THREE, EVEN, SORTED, NO_DOUBLE_A, CLOSED, (((), 0),), (((), 2),), (((("a", 0, 1),), 1),),
)] + [Maker.free(ABC)]


def slow_loss(book, maker, most):
    """The first thing with at most so many letters that is made and has a step that is not, with the least such step."""
    for n in range(most + 1):
        for thing in maker.made(n):
            lost = sorted(step for step in steps(book, thing) if step not in maker)
            if lost:
                return (thing, lost[0])
    return None


def any_maker(dice, letters, many):
    """A maker with so many states, by dice."""
    odds = dice.choice((4, 6, 9))
    return Maker(letters, tuple(
        (tuple((letter, dice.randrange(many), 1) for letter in letters if dice.randrange(10) < odds), dice.randrange(2))
        for _ in range(many)
    ))


class Losses(Case):
    def check(self, book, maker, most=6):
        """The loss of all, as far as the slow search goes; what is found behind it is looked at alone."""
        told = lost_step(book, maker)
        about = (book, maker.states)
        self.same(is_kept(book, maker), told is None, about)
        wanted = slow_loss(book, maker, most if told is None else min(most, len(told[0])))
        if told is None or len(told[0]) <= most:
            self.same(told, wanted, about)
        else:
            self.same(wanted, None, about)
            self.assertTrue(told[0] in maker and told[1] not in maker and told[1] in steps(book, told[0]), about)

    def test_the_examples(self):
        pairs = Maker(("a", "b", "c"), (((("a", 1, 1),), 1), ((("b", 0, 2),), 0)))
        self.same([lost_step(BOOK, pairs), is_kept((LETTERS, (("drop", 2, "left"),)), pairs)], [("ab", "a"), True])

    def test_each_rule_alone(self):
        for rule, maker in itertools.product(ALL_RULES, MAKERS):
            self.check((LETTERS, (rule,)), maker)
            self.check((LETTERS, (("half", "left"), rule)), maker, 5)

    def test_books(self):
        for book, maker in itertools.product((BOOK, BACK, LOOSE, DROPS, HALVES, PUTS, NO_RULES, GROWING), MAKERS):
            self.check(book, maker)

    def test_other_letters(self):
        dice = random.Random(5)
        for book in (DIAMOND, SIX, CHAIN):
            for many in (1, 2, 3, 4, 4, 4):
                self.check(book, any_maker(dice, tuple(names(book)), many), 5)

    def test_small_books_and_makers(self):
        dice = random.Random(7)
        for book in small_books(LETTERS):
            self.check(book, any_maker(dice, ABC, dice.randrange(1, 5)), 5)

    def test_makers_of_two_letters(self):
        dice = random.Random(11)
        letters = (("a", ()), ("b", ("a",)))
        rules = [rule for rule in ALL_RULES if rule[0] != "put" or "c" not in rule[1] + rule[2]]
        for _ in range(400):
            row = tuple(dice.choice(rules) for _ in range(dice.randrange(1, 3)))
            self.check((letters, row), any_maker(dice, ("a", "b"), dice.randrange(1, 5)), 9)

    def test_makers_of_one_letter(self):
        dice = random.Random(13)
        letters = (("a", ()),)
        rules = [
            ("half", "left"), ("half", "right"), ("empty",), ("drop", 1, "left"), ("drop", 2, "right"), ("drop", 3, "left"),
            ("drop", 4, "left"), ("put", "a", "aa", "left"), ("put", "a", "", "right"), ("put", "a", "aaa", "right"),
        ]
        for _ in range(400):
            many = dice.randrange(1, 8)
            # One row of states, of which the last one leads back to one of them, or nowhere.
            back = dice.randrange(many + 1)
            states = tuple(
                ((("a", k + 1, 1),) if k + 1 < many else (("a", back, 1),) if back < many else (), dice.randrange(2))
                for k in range(many)
            )
            self.check((letters, (dice.choice(rules),)), Maker(("a",), states), 60)

    def test_halves_of_two_letters(self):
        dice = random.Random(17)
        letters = (("a", ()), ("b", ()))
        for _ in range(400):
            book = (letters, (("half", dice.choice(("left", "right"))),))
            self.check(book, any_maker(dice, ("a", "b"), 4), 9)

    def test_halves_that_only_long_things_lose(self):
        rows = (((("a", 1, 1),), 1), ((("a", 2, 1),), 1), ((("a", 3, 1),), 1), ((("a", 1, 1),), 0))
        told = lost_step(((("a", ()),), (("half", "left"),)), Maker(("a",), rows))
        self.same(told, ("a" * 7, "a" * 3))
        rows = (
            ((("a", 2, 1), ("b", 0, 1)), 1), ((("a", 3, 1), ("b", 3, 1)), 0), ((("a", 3, 1), ("b", 0, 1)), 0),
            ((("a", 1, 1), ("b", 2, 1)), 0),
        )
        book = ((("a", ()), ("b", ())), (("half", "right"),))
        told = lost_step(book, Maker(("a", "b"), rows))
        self.same(told, slow_loss(book, Maker(("a", "b"), rows), 10))
        self.same(len(told[0]), 10)

    def test_steps_that_only_long_things_lose(self):
        letters = (("a", ()), ("b", ()))
        for states, rule, wanted in [
            # At most two b's, which have an a between them.
            ((((("a", 0, 1), ("b", 1, 1)), 1), ((("a", 2, 1),), 1), ((("a", 2, 1), ("b", 3, 1)), 1), ((("a", 3, 1),), 1)),
             ("drop", 1, "left"), ("bab", "bb")),
            # All things but aaa, by leaving out one letter of four.
            ((((("a", 1, 1),), 1), ((("a", 2, 1),), 1), ((("a", 3, 1),), 1), ((("a", 4, 1),), 0), ((("a", 4, 1),), 1)),
             ("drop", 1, "right"), ("aaaa", "aaa")),
            # All things but aaa: the half of six letters.
            ((((("a", 1, 1),), 1), ((("a", 2, 1),), 1), ((("a", 3, 1),), 1), ((("a", 4, 1),), 0), ((("a", 4, 1),), 1)),
             ("half", "left"), ("aaaaaa", "aaa")),
            # Each number of letters but five and six; four of ten are left out.
            (tuple(((("a", min(k + 1, 7), 1),), 0 if k in (5, 6) else 1) for k in range(8)), ("drop", 4, "left"), ("a" * 9, "a" * 5)),
            # Six letters, and then any: the half of ten to thirteen letters lacks.
            (tuple(((("a", min(k + 1, 7), 1),), 0 if k in (5, 6) else 1) for k in range(8)), ("half", "right"), ("a" * 10, "a" * 5)),
        ]:
            maker = Maker(("a", "b"), states)
            self.same(lost_step((letters, (rule,)), maker), wanted)
            self.same(slow_loss((letters, (rule,)), maker, len(wanted[0])), wanted)

    def test_the_shortest_of_several_rules_and_the_least_of_its_steps(self):
        self.same(lost_step((LETTERS, (("half", "left"), ("drop", 1, "left"))), Maker(ABC, EVEN)), ("aa", "a"))
        book = (LETTERS, (("put", "a", "c", "left"), ("put", "a", "", "left"), ("put", "a", "bb", "left")))
        self.same(lost_step(book, Maker(ABC, (((("a", 1, 1),), 0), ((), 1)))), ("a", ""))
        self.same(lost_step((LETTERS, book[1][:1]), Maker(ABC, (((("a", 1, 1),), 0), ((), 1)))), ("a", "c"))
        self.same(lost_step((LETTERS, (("empty",),)), Maker(ABC, (((("b", 1, 1), ("c", 1, 1)), 0), ((), 1)))), ("b", ""))
        self.same(lost_step((LETTERS, (("lower", "left"),)), Maker(ABC, (((("b", 1, 1), ("c", 1, 1)), 0), ((), 1)))), ("b", "a"))

    def test_things_that_are_never_made(self):
        # Steps of a thing that is not made are not asked for; states that lead nowhere, or are never reached, tell nothing.
        for rule in ALL_RULES:
            self.same(lost_step((LETTERS, (rule,)), Maker(ABC, (((("a", 0, 1), ("b", 0, 1)), 0),))), None)
            self.same(lost_step((LETTERS, (rule,)), Maker(ABC, (((), 0), ((("a", 1, 1),), 1)))), None)
        self.same(lost_step((LETTERS, (("drop", 1, "left"),)), Maker(ABC, (((), 1), ((("a", 1, 1),), 1)))), None)
        self.same(lost_step((LETTERS, (("half", "left"), ("empty",))), Maker(ABC, (((), 1),))), None)

    def test_weights_tell_nothing(self):
        heavy = Maker(ABC, (((("a", 1, 10 ** 59),), 10 ** 59), ((("b", 0, 7),), 0)))
        for rule in ALL_RULES:
            self.same(lost_step((LETTERS, (rule,)), heavy), lost_step((LETTERS, (rule,)), Maker(ABC, PAIRS)))

    def test_long_drops(self):
        dice = random.Random(19)
        for n in (5, 6, 7):
            for _ in range(30):
                book = ((("a", ()),), (("drop", n, "left"),))
                states = tuple(((("a", dice.randrange(4), 1),), dice.randrange(2)) for _ in range(4))
                self.check(book, Maker(("a",), states), 50)

    def test_no_letters_and_no_rules(self):
        for ends in (0, 3):
            for book in (NOTHING, NO_LETTERS):
                self.same([lost_step(book, Maker((), (((), ends),))), is_kept(book, Maker((), (((), ends),)))], [None, True])
        for maker in MAKERS:
            self.same(lost_step(NO_RULES, maker), None)


class Consequences(Case):
    def test_what_is_kept_is_kept_by_all_steps(self):
        kept = [(book, maker) for book in (*small_books(LETTERS, 1), BOOK, PUTS) for maker in MAKERS if is_kept(book, maker)]
        self.assertGreater(len(kept), 50)
        for book, maker in kept:
            for x in itertools.chain.from_iterable(maker.made(n) for n in range(4)):
                things = reached(book, x) if is_falling_book(book) else steps(book, x)
                self.assertTrue(all(thing in maker for thing in things), (book, maker.states, x))

    def test_last_things_are_made(self):
        maker = Maker(ABC, PAIRS)
        book = (LETTERS, (("drop", 2, "left"),))
        for test in [("has", ("a",)), ("but", ("ab",)), ("causes", ("aa",)), ("only", ("abab", "ababab")), ("but", ())]:
            if fails(book, test, "ababab"):
                self.assertIn(last_of(book, test, "ababab"), maker)

    def test_all_things_are_kept_by_each_book(self):
        for book in (BOOK, BACK, LOOSE, DROPS, HALVES, PUTS, NO_RULES, GROWING, DIAMOND, SIX, CHAIN, NOTHING, NO_LETTERS):
            self.same(is_kept(book, Maker.free(tuple(names(book)))), True)

    def test_rules_of_two_books(self):
        for maker in MAKERS:
            keeping = [rule for rule in ALL_RULES if is_kept((LETTERS, (rule,)), maker)]
            self.same(is_kept((LETTERS, tuple(keeping)), maker), True)
            for rule in ALL_RULES:
                if rule not in keeping:
                    self.same(is_kept((LETTERS, (*keeping[:3], rule)), maker), False)

    def test_things_of_the_free_maker(self):
        self.assertEqual(list(Maker.free(ABC).made(2)), [thing for thing in sorted(things_of("abc", 2)) if len(thing) == 2])


class Refused(Case):
    def test_wrong_makers(self):
        for call in (lost_step, is_kept):
            for value in (
                None, True, 0, "", "a", (), [], ABC, PAIRS, (ABC, PAIRS), [ABC, PAIRS], Maker.free(()), Maker.free(("a", "b")),
                Maker(("a", "b", "d"), PAIRS), Maker(("a", "b", "c", "d"), PAIRS), BOOK,
            ):
                for book in (BOOK, LOOSE, NO_RULES):
                    self.unusable("maker", call, book, value)
            self.unusable("maker", call, NOTHING, Maker.free(ABC))

    def test_derived_makers(self):
        class Other(Maker):
            """A derived class."""

        self.same(lost_step(BOOK, Other(ABC, PAIRS)), ("ab", "a"))

    def test_arguments_by_name(self):
        self.same(lost_step(maker=Maker(ABC, PAIRS), book=BOOK), ("ab", "a"))
        self.same(is_kept(maker=Maker(ABC, PAIRS), book=BOOK), False)

    def test_what_is_handed_in_does_not_change(self):
        maker = Maker(ABC, PAIRS)
        lost_step(BOOK, maker)
        is_kept(HALVES, maker)
        self.same([maker.letters, maker.states], [ABC, PAIRS])
        given = [ABC, ["a"]]
        self.unusable("maker", lost_step, BOOK, given)
        self.same(given, [ABC, ["a"]])


if __name__ == "__main__":
    unittest.main()
