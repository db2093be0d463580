"""Points [22], [31], [56], [57]: shrinking that leaves out questions."""

import itertools
import unittest

from firstfailing.asking import Asker
from firstfailing.errors import NotFalling, NothingToUndo, NotUsable
from firstfailing.skipping import Skipper
from firstfailing.walking import last_of, tries_of
from tests.support import (
    BACK, BOOK, CHAIN, DIAMOND, DROPS, GROWING, HALVES, LETTERS, LOOSE, NO_BOOLS, NO_LETTERS, NO_MANNERS, NO_RULES,
    NO_TESTS, NO_THINGS, NOTHING, PUTS, RULES, at_most, fails, is_falling_book, names, rising_tests, small_books, steps,
    steps_on, things_of,
)
from tests.test_asking import BOTH, LOWERS, PARTS, AskerCase
from tests.test_rankings import FALLING

MANNERS = ("again", "on")


class Derived(Skipper):
    """A class below Skipper, which adds nothing."""


def led_skipping(book, x, answers, manner="again"):
    """The walk, what was said, and the question, when shrinking that skips is answered by these, in order."""
    walk, said, rule = [(x, 0)], [], 0
    while True:
        for step, k in steps_on(book, walk[-1][0], rule if manner == "on" else 0):
            if any(not it_fails and step in at_most(book, thing) for thing, it_fails in said):
                continue
            if len(said) == len(answers):
                return tuple(walk), tuple(said), step
            walk[-1] = (walk[-1][0], walk[-1][1] + 1)
            said.append((step, answers[len(said)]))
            if said[-1][1]:
                walk.append((step, 0))
                rule = k
                break
        else:
            return tuple(walk), tuple(said), None


class Answers(AskerCase):
    def test_the_examples(self):
        skipper = Skipper(BOOK, "bc")
        self.same(
            [
                skipper.question, skipper.answer(False), skipper.question, skipper.answer(False), skipper.question,
                skipper.answer(True), skipper.question,
            ],
            ["c", "b", "b", "ac", "ac", None, None],
        )
        self.same([skipper.said, skipper.tries_now], [(("c", False), ("b", False), ("ac", True)), 3])

    def lead(self, skipper, book, x, manner, answers, left):
        """Goes through all further rows of answers, at most so many rows in all, and back by undo."""
        walk, said, question = led_skipping(book, x, answers, manner)
        self.stands(skipper, walk, said, question)
        if question is None or left[0] == 0:
            return
        for it_fails in (False, True):
            left[0] = max(left[0] - 1, 0)
            following = led_skipping(book, x, answers + [it_fails], manner)[2]
            self.same(skipper.answer(it_fails), following)
            self.lead(skipper, book, x, manner, answers + [it_fails], left)
            self.same(skipper.undo(), question)
            self.stands(skipper, walk, said, question)

    def test_all_rows_of_answers(self):
        for book in (*FALLING, LOWERS):
            for x, manner in itertools.product(things_of(names(book), 2), MANNERS):
                self.lead(Skipper(book, x, manner=manner), book, x, manner, [], [100])

    def test_small_books(self):
        for book in small_books(LETTERS):
            if is_falling_book(book):
                for manner in MANNERS:
                    self.lead(Skipper(book, "bcb", manner=manner), book, "bcb", manner, [], [12])

    def test_many_rows_of_answers_from_longer_things(self):
        for book, x in [(BOOK, "abb"), (LOWERS, "bbb"), (HALVES, "abca"), (DROPS, "abcab"), (BACK, "bcba"), (DIAMOND, "pqp")]:
            for manner, seed in itertools.product(MANNERS, range(20)):
                answers, bit = [], seed
                skipper = Skipper(book, x, manner=manner)
                while skipper.question is not None:
                    bit = (bit * 5 + 3) % 64
                    answers.append(bit >= 40)
                    skipper.answer(answers[-1])
                self.stands(skipper, *led_skipping(book, x, answers, manner))

    def test_what_lies_below_a_refused_thing_is_not_asked(self):
        # ab is refused, so a, b and the empty thing are not asked any more, but c and what has it is.
        skipper = Skipper(DROPS, "cab")
        self.same([skipper.question, skipper.answer(False), skipper.answer(True)], ["ab", "cb", "c"])
        self.same([skipper.answer(False), skipper.is_done, skipper.thing_now], [None, True, "cb"])
        self.same(skipper.walk_now, (("cab", 2), ("cb", 1)))

    def test_what_lies_above_a_refused_thing_is_asked(self):
        book = (LETTERS, (("empty",), ("half", "right"), ("drop", 1, "right")))
        skipper = Skipper(book, "cba")
        self.same([skipper.question, skipper.answer(False), skipper.answer(False), skipper.answer(False)], ["", "a", "cb", "ba"])
        # Both letters of ba are at most refused things, but ba itself is above a alone, and not below cb.
        self.same([skipper.answer(True), skipper.question, skipper.thing_now], [None, None, "ba"])
        self.same(skipper.said, (("", False), ("a", False), ("cb", False), ("ba", True)))

    def test_an_equal_refused_thing_is_not_asked_again(self):
        asker, skipper = Asker(BOOK, "bb"), Skipper(BOOK, "bb")
        for one in (asker, skipper):
            one.answer(False)
            one.answer(True)
        self.same([asker.question, skipper.question], ["b", "aa"])
        self.same([asker.thing_now, skipper.thing_now], ["ab", "ab"])

    def test_lesser_letters_count(self):
        # bc is refused, so ac is taken to pass, too.
        book = (LETTERS, (("drop", 1, "left"), ("lower", "left")))
        skipper = Skipper(book, "cbc")
        self.same([skipper.question, skipper.answer(False), skipper.answer(False), skipper.answer(False)], ["bc", "cc", "cb", "cac"])
        self.same([skipper.answer(True), skipper.thing_now], [None, "cac"])

    def test_things_without_steps(self):
        for book, x in [(BOOK, ""), (NO_RULES, "abc"), (NOTHING, ""), (NO_LETTERS, ""), (CHAIN, "cab")]:
            for manner in MANNERS:
                skipper = Skipper(book, x, manner=manner)
                self.stands(skipper, ((x, 0),), (), None)
                self.unusable("it_fails", skipper.answer, False)
                self.same(skipper(("but", ())), x)
                self.refused(NothingToUndo, {"steps": 0}, skipper.undo)

    def test_in_place_answers(self):
        for row in itertools.product((False, True), repeat=2):
            one = two = Skipper(BOOK, "cbc")
            other = Skipper(BOOK, "cbc")
            for it_fails in row:
                one += it_fails
                other.answer(it_fails)
            self.assertIs(one, two)
            self.same(self.told(one), self.told(other))

    def test_wrong_answers_change_nothing(self):
        skipper = Skipper(BOOK, "bc")
        skipper.answer(False)
        for _ in range(2):
            before = self.told(skipper)
            for value in NO_BOOLS if skipper.question else (True, False, None):
                self.unusable("it_fails", skipper.answer, value)
                with self.assertRaises(NotUsable) as caught:
                    skipper += value
                self.same((caught.exception.word, caught.exception.at), ("it_fails", -1))
                self.same(self.told(skipper), before)
            skipper(("causes", ("b",)))

    def test_wrong_tests_change_nothing(self):
        skipper = Skipper(BOOK, "bc")
        for _ in range(2):
            before = self.told(skipper)
            for value in (*NO_TESTS, ("causes", ("d",)), ("has", ("a", "d")), ("only", ("ad",)), ("but", ("z",))):
                self.unusable("test", skipper, value)
                self.same(self.told(skipper), before)
            skipper(BOTH)


class LikeAnAsker(AskerCase):
    def test_it_is_an_asker(self):
        self.assertTrue(issubclass(Skipper, Asker))
        self.assertIn("copied", vars(Skipper))
        self.assertIn("__init__", vars(Skipper))

    def test_tests_of_any_kind(self):
        for book, x in [(BOOK, "bcb"), (BACK, "abc"), (HALVES, "abca"), (LOWERS, "bb"), (DROPS, "cab")]:
            for word, things in itertools.product(("causes", "only", "but", "has"), [("a", "b"), ("c",), ()]):
                for manner in MANNERS:
                    skipper = Skipper(book, x, manner=manner)
                    end = skipper((word, things))
                    answers = []
                    while (question := led_skipping(book, x, answers, manner)[2]) is not None:
                        answers.append(fails(book, (word, things), question))
                    walk, said, _ = led_skipping(book, x, answers, manner)
                    self.stands(skipper, walk, said, None)
                    self.same(end, walk[-1][0])
                    self.same(skipper(("but", ())), end)

    def test_undo_of_all_answers(self):
        for manner in MANNERS:
            skipper = Skipper(LOWERS, "bbc", manner=manner)
            shown = [self.told(skipper)]
            while not skipper.is_done:
                skipper.answer(len(skipper) % 3 == 2)
                shown.append(self.told(skipper))
            while len(shown) > 1:
                self.same(self.told(skipper), shown.pop())
                self.same(skipper.undo(), shown[-1][0])
            self.same(self.told(skipper), shown[0])
            self.refused(NothingToUndo, {"steps": 0}, skipper.undo)
            self.same(self.told(skipper), shown[0])

    def test_what_was_taken_back_is_asked_again(self):
        skipper = Skipper(DROPS, "cab")
        skipper.answer(False)
        self.same([skipper.undo(), skipper.question, skipper.answer(True), skipper.answer(False)], ["ab", "ab", "b", None])
        self.same(skipper.said, (("ab", True), ("b", False)))
        self.same([skipper.undo(), skipper.undo(), skipper.answer(False), skipper.question], ["b", "ab", "cb", "cb"])

    def test_copies_go_on_by_themselves(self):
        for manner in MANNERS:
            for row in [(), (False,), (True,), (False, True), (False, False, True)]:
                for kind in (Skipper, Derived):
                    skipper = kind(BACK, "cbb", manner=manner)
                    for it_fails in row:
                        skipper.answer(it_fails)
                    before = self.told(skipper)
                    copy = skipper.copied()
                    self.assertIsNot(copy, skipper)
                    self.assertIs(type(copy), Skipper)
                    self.same(self.told(copy), before)
                    self.assertTrue(copy == skipper)
                    end = copy(("causes", ("a",)))
                    self.same(self.told(skipper), before)
                    other = skipper.copied()
                    for _ in row:
                        other.undo()
                    self.refused(NothingToUndo, {"steps": 0}, other.undo)
                    self.same(self.told(skipper), before)
                    self.same(skipper(("causes", ("a",))), end)
                    self.same(self.told(skipper), self.told(copy))

    def test_items(self):
        skipper = Skipper(BOOK, "bc")
        for it_fails in (False, False, True):
            skipper.answer(it_fails)
        self.same([skipper[k] for k in range(3)], [("c", False), ("b", False), ("ac", True)])
        for value in (3, -1, True, None, "c", [0]):
            self.unusable("k", lambda k: skipper[k], value)
        self.same([value in skipper for value in ("c", "ac", "a", "", "bc", None, ["c"])], [True, True] + [False] * 5)
        self.same([list(skipper), str(skipper), len(skipper)], [list(skipper.said), "c. b. ac!", 3])

    def test_equality_with_askers_without_notes(self):
        for manner in MANNERS:
            skipper, asker = Skipper(BOOK, "bc", manner=manner), Asker(BOOK, "bc", manner=manner)
            self.same([skipper == asker, asker == skipper, skipper != asker], [True, True, False])
            self.same([skipper == Asker(BOOK, "bc", manner=manner, notes=True)], [False])
            self.same([Asker(BOOK, "bc", manner=manner, notes=True) == skipper], [False])
            for it_fails in (False, False, True):
                skipper.answer(it_fails)
                self.same([skipper == asker, asker == skipper], [False, False])
                asker.answer(it_fails)
                self.same([skipper == asker, asker == skipper], [True, True])
            self.same([skipper.is_done, asker.is_done], [True, False])
            asker.answer(False)
            self.same([skipper == asker, asker == skipper], [False, False])

    def test_equality_with_skippers(self):
        skipper = Skipper(BOOK, "bc")
        for other, wanted in [
            (Skipper(BOOK, "bc"), True), (Derived(BOOK, "bc"), True), (Skipper(BACK, "bc"), False), (Skipper(BOOK, "cb"), False),
            (Skipper(BOOK, "bc", manner="on"), False), (Asker(BOOK, "bc"), True), (Asker(BOOK, "bc", manner="on"), False),
        ]:
            self.same([skipper == other, other == skipper, skipper != other], [wanted, wanted, not wanted])
        for value in (None, True, 0, "", (), [], skipper.said, BOOK):
            self.same([skipper == value, value == skipper], [False, False])


class Consequences(AskerCase):
    def check(self, book, x, test, manner):
        skipper = Skipper(book, x, manner=manner)
        self.same(skipper(test), last_of(book, test, x, manner=manner), (book, x, test, manner))
        self.assertLessEqual(len(skipper), tries_of(book, test, x, manner=manner))
        refused = [thing for thing, it_fails in skipper if not it_fails]
        self.assertEqual(len(refused), len(set(refused)))

    def test_by_rising_tests(self):
        for book, x in [(BOOK, "bc"), (BACK, "bb"), (HALVES, "abc"), (PUTS, "ab"), (LOWERS, "bb"), (DIAMOND, "r"), (DROPS, "cab")]:
            for test, manner in itertools.product(rising_tests(book, x), MANNERS):
                self.check(book, x, test, manner)

    def test_by_one_or_two_causes(self):
        for book, x in [(BOOK, "bcb"), (HALVES, "abcab"), (LOWERS, "bbb"), (BACK, "abc")]:
            things = sorted(at_most(book, x))
            for causes in [(a,) for a in things] + list(itertools.combinations(things, 2))[::7]:
                for manner in MANNERS:
                    self.check(book, x, ("causes", causes), manner)


class Refused(AskerCase):
    def test_wrong_arguments(self):
        for book in (BOOK, LOOSE, GROWING):
            for value in (*NO_THINGS, "d", "abd"):
                self.unusable("x", Skipper, book, value)
                self.unusable("x", Skipper, book, value, manner=None)
            for value in NO_MANNERS:
                self.unusable("manner", Skipper, book, "a", manner=value)

    def test_books_that_do_not_fall(self):
        for rules, r in [(LOOSE[1], 0), (GROWING[1], 0), ((*BOOK[1], RULES[15]), 2), ((RULES[10], RULES[14], RULES[16]), 1)]:
            for x, manner in itertools.product(("", "b"), MANNERS):
                self.refused(NotFalling, {"rule": r}, Skipper, (LETTERS, rules), x, manner=manner)

    def test_defaults_and_names(self):
        self.assertTrue(Skipper(x="bc", book=BOOK, manner="again") == Skipper(BOOK, "bc"))
        for call in (
            lambda: Skipper(BOOK, "bc", "on"), lambda: Skipper(BOOK), lambda: Skipper(BOOK, "bc", notes=False),
        ):
            with self.assertRaises(TypeError):
                call()

    def test_attributes_are_there_from_the_beginning(self):
        skipper = Skipper(BOOK, "bc")
        self.same([getattr(skipper, name) for name in PARTS], ["c", "bc", 0, (), (("bc", 0),), False])

    def test_what_is_handed_in_does_not_change(self):
        given = ["a", [True]]
        skipper = Skipper(BOOK, "bc")
        self.unusable("x", Skipper, BOOK, given)
        self.unusable("it_fails", skipper.answer, given)
        self.unusable("test", skipper, given)
        self.same(given, ["a", [True]])
        self.same(skipper.said, ())
        self.same(steps(BOOK, "bc"), ["c", "b", "ac"])


if __name__ == "__main__":
    unittest.main()
