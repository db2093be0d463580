"""Points [6], [7], [22], [31], [32], [33]: shrinking that is led by answers."""

import itertools
import unittest

from firstfailing.asking import Asker
from firstfailing.errors import NotEnding, NothingToUndo, NotUsable
from tests.support import (
    BACK, BOOK, CHAIN, DIAMOND, DROPS, GROWING, HALVES, LETTERS, LOOSE, NO_BOOLS, NO_LETTERS, NO_MANNERS, NO_RULES,
    NO_TESTS, NO_THINGS, NOTHING, PUTS, SIX, Case, at_most, fails, is_ring, last, led, names, steps, things_of,
)

BOTH = ("causes", ("a", "c"))
# With both lower rules a thing can come to the same step by several rules, and ab is asked twice from bb.
LOWERS = (LETTERS, (("lower", "right"), ("half", "left"), ("lower", "left"), ("drop", 2, "right"), ("drop", 1, "left")))
WAYS = [(manner, notes) for manner in ("again", "on") for notes in (False, True)]
PARTS = ("question", "thing_now", "tries_now", "said", "walk_now", "is_done")


class Derived(Asker):
    """A class below Asker, which adds nothing."""


class AskerCase(Case):
    def stands(self, asker, walk, said, question):
        """The asker shows this walk, what was said, and the question, in all its ways."""
        self.same(asker.question, question)
        self.same(asker.thing_now, walk[-1][0])
        self.same(asker.tries_now, len(said))
        self.same(asker.said, said)
        self.same(asker.walk_now, walk)
        self.same(asker.is_done, question is None)
        self.same(len(asker), len(said))
        self.same(list(asker), list(said))
        self.same(bool(asker), said != ())
        self.same(str(asker), " ".join((thing or "-") + ".!"[it_fails] for thing, it_fails in said))

    def told(self, asker):
        """All that the asker shows."""
        return tuple(getattr(asker, name) for name in PARTS) + (str(asker), tuple(asker), len(asker))


class Answers(AskerCase):
    def test_the_examples(self):
        asker = Asker(BOOK, "bc")
        self.same(
            [asker.question, asker.answer(False), asker.answer(True), asker.thing_now, asker.walk_now, str(asker)],
            ["c", "b", "", "b", (("bc", 2), ("b", 0)), "c. b!"],
        )
        self.same(
            [asker.undo(), asker.question, asker(BOTH), asker.said, asker.is_done],
            ["b", "b", "a", (("c", False), ("b", True), ("", False), ("a", True), ("", False)), True],
        )
        self.same([Asker.begun(BACK, "bc", "c").said, Asker.plain("cab").question], [(("b", False), ("c", True)), "ab"])

    def lead(self, asker, book, x, manner, notes, answers, left):
        """Goes through all further rows of answers, at most so many rows in all, and back by undo."""
        walk, said, question = led(book, x, answers, manner, notes)
        self.stands(asker, walk, said, question)
        if question is None or left[0] == 0:
            return
        for it_fails in (False, True):
            left[0] = max(left[0] - 1, 0)
            following = led(book, x, answers + [it_fails], manner, notes)[2]
            self.same(asker.answer(it_fails), following)
            self.lead(asker, book, x, manner, notes, answers + [it_fails], left)
            self.same(asker.undo(), question)
            self.stands(asker, walk, said, question)

    def test_all_rows_of_answers(self):
        for book in (BOOK, BACK, HALVES, PUTS, LOWERS, GROWING, DIAMOND, SIX, NO_RULES, NOTHING, NO_LETTERS, CHAIN):
            for x in things_of(names(book), 2):
                for manner, notes in WAYS:
                    asker = Asker(book, x, manner=manner, notes=notes)
                    self.lead(asker, book, x, manner, notes, [], [150])

    def test_many_rows_of_answers_from_longer_things(self):
        for book, x in [(BOOK, "abb"), (LOWERS, "bbb"), (HALVES, "abca"), (DROPS, "abcab"), (SIX, "prq")]:
            for manner, notes in WAYS:
                for seed in range(12):
                    answers, bit = [], seed
                    asker = Asker(book, x, manner=manner, notes=notes)
                    while asker.question is not None:
                        bit = (bit * 5 + 3) % 64
                        answers.append(bit >= 48)
                        asker.answer(answers[-1])
                    self.stands(asker, *led(book, x, answers, manner, notes))

    def test_manners_and_notes_by_hand(self):
        test = ("causes", ("aa",))
        asker = Asker(BOOK, "bb")
        self.same(asker(test), "aa")
        self.same(asker.walk_now, (("bb", 2), ("ab", 3), ("aa", 1)))
        asker = Asker(BOOK, "bb", manner="on")
        self.same(asker(test), "aa")
        self.same(asker.walk_now, (("bb", 2), ("ab", 1), ("aa", 1)))
        for notes, wanted in [(False, (("bc", 1), ("b", 2), ("a", 1))), (True, (("bc", 1), ("b", 2), ("a", 0)))]:
            asker = Asker(BACK, "bc", notes=notes)
            asker(BOTH)
            self.same(asker.walk_now, wanted)

    def test_on_begins_with_the_rule_at_which_a_step_comes_first(self):
        book = (LETTERS, (("drop", 1, "left"), ("lower", "left"), ("put", "b", "a", "right"), ("half", "left")))
        asker = Asker(book, "bb", manner="on")
        for it_fails in (False, False, True):
            asker.answer(it_fails)
        self.same((asker.thing_now, asker.question), ("ba", "aa"))
        # The result ba is that of lower, so what this rule makes of it is asked first, and what drop makes last.
        self.same([asker.answer(False), asker.answer(False), asker.answer(False)], ["b", "a", None])

    def test_the_beginning_counts_as_a_result_of_rule_0(self):
        for manner in ("again", "on"):
            self.same(Asker(LOWERS, "bb", manner=manner).question, "ba")

    def test_without_notes_a_thing_is_asked_again_and_may_be_answered_otherwise(self):
        asker = Asker(BACK, "bc")
        for it_fails in (True, False, True):
            asker.answer(it_fails)
        self.same((asker.thing_now, asker.question), ("a", ""))
        self.same(asker.answer(True), None)
        self.same(asker.said, (("b", True), ("", False), ("a", True), ("", True)))
        self.same(asker.thing_now, "")

    def test_with_notes_what_was_taken_back_is_asked_again(self):
        asker = Asker(BACK, "bc", notes=True)
        asker.answer(True)
        asker.answer(False)
        self.same(asker.answer(True), None)
        self.same([asker.undo(), asker.undo(), asker.question], ["a", "", ""])
        self.same(asker.answer(True), None)
        self.same(asker.walk_now, (("bc", 1), ("b", 1), ("", 0)))

    def test_things_without_steps(self):
        for book, x in [(BOOK, ""), (NO_RULES, "abc"), (NOTHING, ""), (NO_LETTERS, ""), (CHAIN, "cab")]:
            for manner, notes in WAYS:
                asker = Asker(book, x, manner=manner, notes=notes)
                self.stands(asker, ((x, 0),), (), None)
                self.unusable("it_fails", asker.answer, True)
                self.same(asker(("but", ())), x)
                self.refused(NothingToUndo, {"steps": 0}, asker.undo)

    def test_results_are_tuples(self):
        asker = Asker(BOOK, "bc")
        asker.answer(False)
        self.assertIs(type(asker.said), tuple)
        self.assertIs(type(asker.walk_now), tuple)
        self.assertIs(type(asker[0]), tuple)
        before = asker.said, asker.walk_now
        asker.answer(True)
        self.same(before, ((("c", False),), (("bc", 1),)))

    def test_in_place_answers(self):
        for row in itertools.product((False, True), repeat=3):
            one = two = Asker(BOOK, "cbc")
            other = Asker(BOOK, "cbc")
            for it_fails in row:
                one += it_fails
                other.answer(it_fails)
            self.assertIs(one, two)
            self.assertIs(type(one), Asker)
            self.same(self.told(one), self.told(other))

    def test_wrong_answers_change_nothing(self):
        asker = Asker(BOOK, "bc")
        asker.answer(False)
        before = self.told(asker)
        for value in NO_BOOLS:
            self.unusable("it_fails", asker.answer, value)
            with self.assertRaises(NotUsable) as caught:
                asker += value
            self.same((caught.exception.word, caught.exception.at), ("it_fails", -1))
            self.same(self.told(asker), before)
        asker(("causes", ("b",)))
        before = self.told(asker)
        for value in (True, False, None):
            self.unusable("it_fails", asker.answer, value)
            with self.assertRaises(NotUsable) as caught:
                asker += value
            self.same((caught.exception.word, caught.exception.at), ("it_fails", -1))
            self.same(self.told(asker), before)
        self.same(asker.undo(), before[3][-1][0])


class ByTests(AskerCase):
    def test_tests_make_their_walks(self):
        for book, x in [(BOOK, "bcb"), (BACK, "abc"), (HALVES, "abca"), (LOWERS, "bb"), (GROWING, "cb"), (SIX, "pq")]:
            every = names(book)
            tests = [(word, (every[0], every[1])) for word in ("causes", "only", "but", "has")]
            tests += [("causes", ("",)), ("causes", ()), ("but", ()), ("only", (x[1:],)), ("causes", (x[1:],))]
            for test, (manner, notes) in itertools.product(tests, WAYS):
                asker = Asker(book, x, manner=manner, notes=notes)
                end = asker(test)
                answers = []
                while (question := led(book, x, answers, manner, notes)[2]) is not None:
                    answers.append(fails(book, test, question))
                walk, said, _ = led(book, x, answers, manner, notes)
                self.stands(asker, walk, said, None)
                self.same(end, walk[-1][0])
                if manner == "again":
                    self.same(end, last(book, test, x))
                self.same(asker(("but", ())), end)
                self.stands(asker, walk, said, None)

    def test_what_was_answered_before_need_not_agree(self):
        asker = Asker(BOOK, "bc")
        asker.answer(True)
        self.same(asker(("only", ("bc",))), "c")
        self.same(asker.said, (("c", True), ("", False)))
        asker = Asker(BOOK, "bc")
        asker.answer(False)
        self.same(asker(("causes", ("c",))), "c")
        self.same(asker.said, (("c", False), ("b", False), ("ac", True), ("c", True), ("", False)))
        asker = Asker(BOOK, "bc", notes=True)
        asker.answer(False)
        self.same(asker(("causes", ("c",))), "ac")
        self.same(asker.said, (("c", False), ("b", False), ("ac", True), ("a", False)))

    def test_wrong_tests_change_nothing(self):
        asker = Asker(BOOK, "bc")
        for _ in range(2):
            before = self.told(asker)
            for value in (*NO_TESTS, ("causes", ("d",)), ("has", ("a", "d")), ("only", ("ad",)), ("but", ("z",))):
                self.unusable("test", asker, value)
                self.same(self.told(asker), before)
            asker(BOTH)

    def test_the_test_by_name(self):
        self.same(Asker(BOOK, "bc")(test=BOTH), "c")
        asker = Asker(BOOK, "bc")
        self.same(asker.answer(it_fails=False), "b")


class BackAndCopies(AskerCase):
    def test_undo_of_all_answers(self):
        for manner, notes in WAYS:
            asker = Asker(LOWERS, "bbc", manner=manner, notes=notes)
            shown = [self.told(asker)]
            while not asker.is_done:
                asker.answer(len(asker) % 3 == 2)
                shown.append(self.told(asker))
            while len(shown) > 1:
                self.same(self.told(asker), shown.pop())
                asked = asker.said[-1][0]
                self.same(asker.undo(), asked)
            self.same(self.told(asker), shown[0])
            for _ in range(2):
                self.refused(NothingToUndo, {"steps": 0}, asker.undo)
                self.same(self.told(asker), shown[0])

    def test_what_was_taken_back_is_answered_otherwise(self):
        asker = Asker(BOOK, "bc")
        asker.answer(True)
        self.same(asker.undo(), "c")
        self.same(asker.answer(False), "b")
        self.same(asker.said, (("c", False),))
        asker.undo()
        self.same(asker.answer(True), "")
        self.same(asker.said, (("c", True),))

    def test_copies_go_on_by_themselves(self):
        for manner, notes in WAYS:
            for row in [(), (False,), (True,), (False, True), (False, False, True)]:
                asker = Asker(BACK, "cbb", manner=manner, notes=notes)
                for it_fails in row:
                    asker.answer(it_fails)
                before = self.told(asker)
                copy = asker.copied()
                self.assertIsNot(copy, asker)
                self.assertIs(type(copy), Asker)
                self.same(self.told(copy), before)
                self.assertTrue(copy == asker)
                copy(("causes", ("a",)))
                self.same(self.told(asker), before)
                self.assertFalse(copy == asker)
                other = asker.copied()
                for _ in row:
                    other.undo()
                self.refused(NothingToUndo, {"steps": 0}, other.undo)
                self.same(self.told(asker), before)
                asker.answer(True)
                self.same(other.said, ())
                again = asker.copied()
                self.same(asker(("causes", ("b",))), again(("causes", ("b",))))
                self.same(self.told(asker), self.told(again))

    def test_copies_at_the_end(self):
        asker = Asker(BACK, "cbb", notes=True)
        asker(BOTH)
        copy = asker.copied()
        self.same(self.told(copy), self.told(asker))
        while copy:
            copy.undo()
        self.same(copy.question, "cb")
        self.assertTrue(asker.is_done)


class AsSequence(AskerCase):
    def asked(self):
        asker = Asker(BOOK, "bc")
        for it_fails in (False, True, False, True):
            asker.answer(it_fails)
        return asker

    def test_pairs_by_index(self):
        asker = self.asked()
        for k, pair in enumerate(asker.said):
            self.same(asker[k], pair)
        self.same(asker[1], ("b", True))

    def test_wrong_indexes(self):
        for asker in (self.asked(), Asker(BOOK, "bc")):
            before = self.told(asker)
            for value in (4, 5, 10 ** 59, -1, -4, True, False, None, "", "0", "c", (), (0,), [], [0], ("c", False)):
                self.unusable("k", lambda k: asker[k], value)
            self.same(self.told(asker), before)
        self.unusable("k", lambda k: Asker(BOOK, "bc")[k], 0)

    def test_things_of_pairs(self):
        asker = self.asked()
        for value in ("c", "b", "", "a"):
            self.same(value in asker, True, value)
        others = ("bc", "ac", "d", "c.", "-", None, True, False, 0, 1, (), [], ("c", False), ["c"], ("c",), asker, BOOK)
        for value in others:
            self.same(value in asker, False, value)
        self.same("c" in Asker(BOOK, "bc"), False)
        asker.undo()
        self.same("a" in asker, False)

    def test_strings(self):
        for row, wanted in [
            ((), ""), ((False,), "c."), ((True,), "c!"), ((True, True), "c! -!"), ((False, True, False), "c. b! -."),
        ]:
            asker = Asker(BOOK, "bc")
            for it_fails in row:
                asker.answer(it_fails)
            self.same(str(asker), wanted)

    def test_iteration_gives_pairs_each_time(self):
        asker = self.asked()
        self.same(list(asker), [("c", False), ("b", True), ("", False), ("a", True)])
        self.same([pair for pair in asker], list(asker))
        self.same(dict(asker), {"c": False, "b": True, "": False, "a": True})

    def test_truth_is_by_tries(self):
        asker = Asker(BOOK, "bc")
        self.assertFalse(asker)
        asker.answer(False)
        self.assertTrue(asker)
        asker.undo()
        self.assertFalse(asker)


class Equality(AskerCase):
    def test_equal_askers(self):
        for manner, notes in WAYS:
            one = Asker(BOOK, "bc", manner=manner, notes=notes)
            two = Asker(BOOK, "bc", manner=manner, notes=notes)
            self.same([one == two, one != two, one == one], [True, False, True])
            one.answer(False)
            self.same([one == two, one != two], [False, True])
            two.answer(False)
            self.same([one == two, one != two], [True, False])
            one.answer(True)
            two.answer(False)
            self.same([one == two, one != two], [False, True])
            two.undo()
            two.answer(True)
            self.same([one == two, one != two], [True, False])

    def test_each_part_counts(self):
        asker = Asker(BOOK, "bc")
        for other in [
            Asker(BACK, "bc"),
            Asker(((*LETTERS, ("d", ())), BOOK[1]), "bc"),
            Asker((LETTERS, (*BOOK[1], ("empty",))), "bc"),
            Asker(BOOK, "cb"),
            Asker(BOOK, "bc", manner="on"),
            Asker(BOOK, "bc", notes=True),
        ]:
            self.same([asker == other, other == asker, asker != other], [False, False, True])

    def test_parts_count_where_what_was_said_is_equal(self):
        book = (LETTERS, (("empty",),))
        askers = [Asker(book, x, manner=manner, notes=notes) for x in ("a", "b") for manner, notes in WAYS]
        askers.append(Asker((LETTERS, (("drop", 1, "left"),)), "a"))
        for asker in askers:
            asker.answer(True)
        for i, j in itertools.product(range(len(askers)), repeat=2):
            self.same(askers[i] == askers[j], i == j)

    def test_classes_do_not_count(self):
        one, two = Asker(BOOK, "bc"), Derived(BOOK, "bc")
        self.same([one == two, two == one, one != two], [True, True, False])
        two.answer(True)
        self.same([one == two, two == one], [False, False])

    def test_other_values_are_not_equal(self):
        for asker in (Asker(BOOK, "bc"), Asker.begun(BOOK, "bc", "c")):
            for value in (None, True, 0, "", "c!", (), [], asker.said, list(asker), BOOK, (BOOK, "bc"), str(asker)):
                self.same([asker == value, value == asker, asker != value], [False, False, True])


class Beginnings(AskerCase):
    def test_begun_goes_to_each_of_the_things(self):
        for book in (BOOK, BACK, HALVES, GROWING, LOWERS):
            for x in things_of(names(book), 2):
                rows = [(x,)] + [(x, y) for y in steps(book, x)]
                rows += [(x, y, z) for y in steps(book, x) for z in steps(book, y)]
                for row in rows:
                    asker = Asker.begun(book, *row)
                    self.assertIs(type(asker), Asker)
                    said = []
                    for one, two in zip(row, row[1:]):
                        before = steps(book, one)[: steps(book, one).index(two)]
                        said += [*[(thing, False) for thing in before], (two, True)]
                    self.stands(asker, *led(book, x, [it_fails for _, it_fails in said]))
                    self.same(asker.said, tuple(said))
                    self.same([thing for thing, _ in asker.walk_now], list(row))
                    other = Asker(book, x)
                    for _, it_fails in said:
                        other.answer(it_fails)
                    self.assertTrue(asker == other)

    def test_begun_can_be_taken_back_and_go_on(self):
        asker = Asker.begun(BACK, "bc", "c")
        self.same([asker.undo(), asker.undo(), asker.question], ["c", "b", "b"])
        asker = Asker.begun(BACK, "bb", "b", "a")
        self.same(asker.answer(True), None)

    def test_wrong_beginnings(self):
        def refuses(k, *things):
            self.refused(NotUsable, {"word": "things", "at": k}, Asker.begun, BOOK, *things)
            self.refused(NotUsable, {"word": "things", "at": k}, Asker.begun, LOOSE_BOOK, *things)

        LOOSE_BOOK = (LETTERS, (*BOOK[1], ("put", "b", "bb", "left")))
        refuses(0)
        for value in (*NO_THINGS, "d", "bcd"):
            refuses(0, value)
            refuses(0, value, "a")
            refuses(0, value, value)
            refuses(1, "bc", value)
            refuses(1, "bc", value, "c")
            refuses(2, "bc", "c", value)
        refuses(1, "bc", "bc")
        refuses(1, "bc", "a")
        refuses(1, "bc", "")
        refuses(1, "bc", "ab")
        refuses(1, "bc", "a", None)
        refuses(2, "bc", "b", "c")
        refuses(2, "bc", "b", "b")
        refuses(2, "bc", "ac", "bc")
        refuses(3, "bc", "b", "a", "b")
        refuses(3, "bc", "b", "", "", "a")

    def test_begun_wants_an_ending_book_behind_all_else(self):
        for things in [("a",), ("a", "c"), ("a", "c", "aa"), ("",), ("b",)]:
            self.not_ending(LOOSE, Asker.begun, LOOSE, *things)
        self.refused(NotUsable, {"word": "things", "at": 0}, Asker.begun, LOOSE)
        self.refused(NotUsable, {"word": "things", "at": 2}, Asker.begun, LOOSE, "a", "c", "a")

    def test_plain(self):
        for x in ("", "a", "aa", "cab", "zebra", "banana"):
            book = (tuple((letter, ()) for letter in sorted(set(x))), (("drop", 1, "left"),))
            asker = Asker.plain(x)
            self.assertIs(type(asker), Asker)
            self.stands(asker, *led(book, x, []))
            self.assertTrue(asker == Asker(book, x))
            self.assertTrue(Asker.plain(x=x) == asker)
            self.same(asker(("but", ())), "")
        self.same(Asker.plain("cab")(("has", ("a",))), "a")
        asker = Asker.plain("cab")
        self.unusable("test", asker, ("has", ("d",)))

    def test_plain_wants_a_thing(self):
        for value in NO_THINGS:
            self.unusable("x", Asker.plain, value)


class Construction(AskerCase):
    def test_defaults_and_names(self):
        asker = Asker(x="bc", book=BOOK, notes=False, manner="again")
        self.assertTrue(asker == Asker(BOOK, "bc"))
        with self.assertRaises(TypeError):
            Asker(BOOK, "bc", "on")
        with self.assertRaises(TypeError):
            Asker(BOOK)

    def test_wrong_arguments(self):
        for value in (*NO_THINGS, "d", "abd"):
            for book in (BOOK, LOOSE):
                self.unusable("x", Asker, book, value)
                self.unusable("x", Asker, book, value, manner=None, notes=None)
                self.unusable("x", Asker, book, value, notes=1)
        for value in NO_MANNERS:
            for book in (BOOK, LOOSE):
                self.unusable("manner", Asker, book, "a", manner=value)
                self.unusable("manner", Asker, book, "a", notes=1, manner=value)
        for value in NO_BOOLS:
            for book, manner in itertools.product((BOOK, LOOSE), ("again", "on")):
                self.unusable("notes", Asker, book, "a", manner=manner, notes=value)

    def test_books_that_do_not_end(self):
        for book in (LOOSE, (LETTERS, (("put", "a", "aa", "left"),)), (LETTERS, (("put", "a", "b", "left"), BOOK[1][1]))):
            for x, (manner, notes) in itertools.product(("", "b", "ca"), WAYS):
                self.not_ending(book, Asker, book, x, manner=manner, notes=notes)
        with self.assertRaises(NotEnding) as caught:
            Asker(LOOSE, "a")
        self.assertTrue(is_ring(LOOSE, caught.exception.ring))

    def test_the_listed_methods_are_defined_in_the_class_itself(self):
        for name in [
            *PARTS, "answer", "undo", "copied", "begun", "plain", "__init__", "__call__", "__iadd__", "__len__",
            "__getitem__", "__contains__", "__eq__", "__iter__", "__str__",
        ]:
            self.assertIn(name, vars(Asker))

    def test_what_is_handed_in_does_not_change(self):
        given = ["a", [True]]
        asker = Asker(BOOK, "bc")
        self.unusable("x", Asker, BOOK, given)
        self.unusable("it_fails", asker.answer, given)
        self.unusable("test", asker, given)
        self.unusable("k", lambda k: asker[k], given)
        self.refused(NotUsable, {"word": "things", "at": 0}, Asker.begun, BOOK, given)
        self.unusable("x", Asker.plain, given)
        self.same([given in asker, asker == given], [False, False])
        self.same(given, ["a", [True]])


class Consequences(AskerCase):
    def test_notes_change_no_thing_of_a_walk_and_save_tries(self):
        for book, x in [(BOOK, "bcb"), (BACK, "abb"), (HALVES, "abca"), (GROWING, "cb")]:
            for manner, thing in itertools.product(("again", "on"), sorted(at_most(book, x))):
                with_notes = Asker(book, x, manner=manner, notes=True)
                without = Asker(book, x, manner=manner)
                self.same(with_notes(("causes", (thing,))), without(("causes", (thing,))))
                self.same([row[0] for row in with_notes.walk_now], [row[0] for row in without.walk_now])
                for one, two in zip(with_notes.walk_now, without.walk_now):
                    self.assertLessEqual(one[1], two[1])

    def test_with_notes_no_thing_is_asked_twice(self):
        for book, x in [(BOOK, "bcb"), (BACK, "abb"), (HALVES, "abca"), (LOWERS, "bbc")]:
            for manner, seed in itertools.product(("again", "on"), range(20)):
                asker = Asker(book, x, manner=manner, notes=True)
                bit = seed
                while not asker.is_done:
                    bit = (bit * 7 + 5) % 32
                    asker.answer(bit > 20)
                things = [thing for thing, _ in asker]
                self.assertEqual(len(things), len(set(things)))
                self.assertLessEqual(len(things), len(at_most(book, x)) - 1)


if __name__ == "__main__":
    unittest.main()
