"""Points [5], [7], [62] to [71], log and str in [72]: live trials."""

import itertools
import unittest

from firstfailing.errors import InvalidEvent, InvalidPaper, NotFalling, NothingToUndo, NotUsable
from firstfailing.trials import Trial
from tests.support import (
    BACK, BOOK, CHAIN_LETTERS, DIAMOND, DROPS, HALVES, LETTERS, LOOSE, NO_BOOLS, NO_LETTERS, NO_MANNERS, NO_RULES,
    NO_THINGS, NOTHING, PUTS, RULES, Case, at_most, fails, names, ranking, things_of, walk,
)
from tests.test_bookchecker import NO_PAIRS
from tests.test_bookclasses import NO_BOOKS
from tests.test_rankings import LOWERS
from tests.trialmodel import Model, shown_by

MANNERS = ("again", "on")
NO_EVENTS = (
    None, True, 0, 1, "", "answer", "answer fails", (), [], ("answer",), ("answer", 1), ("answer", None), ("answer", "fails"),
    ["answer", True], ("answer", True, True), ("told", "a"), ("told", "a", 1), ("told", "A", True), ("told", None, True),
    ("told", ["a"], True), ("told", "a", True, True), ("rule", ("empty",)), ("rule", ("empty",), -1),
    ("rule", ("empty",), None), ("rule", ("empty",), True), ("rule", ["empty"], 0), ("rule", ("drop", 0, "left"), 0),
    ("rule", 0, ("empty",)), ("norule",), ("norule", -1), ("norule", False), ("norule", "0"), ("norule", 0, 0), ("start",),
    ("start", None), ("start", "a b"), ("start", "a", True), ("manner",), ("manner", "On"), ("manner", None),
    ("manner", ["on"]), ("manner", "on", "on"), ("undo",), ("go", ("answer", True)), (("answer", True),), ([], True),
)
OTHER_VALUES = (None, True, 0, 1, -1, "", "a", "d", "A", "on", "again", (), ("empty",), [], ["a"], ("a", ()), 10 ** 59)
RULES_FOR_EVENTS = (
    ("drop", 1, "left"), ("drop", 1, "right"), ("drop", 2, "left"), ("half", "right"), ("empty",), ("lower", "left"),
    ("lower", "right"), ("put", "b", "a", "left"), ("put", "a", "", "right"), ("put", "a", "b", "left"),
    ("put", "c", "ab", "left"), ("put", "d", "", "left"), ("put", "a", "d", "left"), ("put", "b", "bb", "right"),
)
WORDS = {True: "fails", False: "passes"}


def pool(x, letters):
    """Events of all forms, of which some are possible in a trial from x, each form in a list of its own."""
    things = sorted({*things_of(letters, 2), x, x[1:], x[:-1], x[::-1], x + x, "d", "ad"})
    return [
        [("answer", it_fails) for it_fails in (True, False)],
        [("told", thing, it_fails) for thing in things for it_fails in (True, False)],
        [("rule", rule, at) for rule in RULES_FOR_EVENTS for at in (0, 1, 2, 3, 9)],
        [("norule", k) for k in (0, 1, 2, 5)],
        [("start", thing) for thing in things],
        [("manner", word) for word in MANNERS],
    ]


def picks(seed, rows, many):
    """So many events of these rows, in an order that the seed tells."""
    number = seed * 7919 + 12345
    for k in range(many):
        number = (number * 1103515245 + 12345) % 2 ** 31
        at = number >> 8
        # A trial is soon done if it is not begun anew now and then.
        row = rows[(0, 1, 4, 0, 1, 2, 4, 1, 3, 5)[(at + k) % 10]]
        yield row[(at // 10) % len(row)]


class TrialCase(Case):
    def barred(self, reason, trial, event):
        """The event is not possible for this reason, and changes nothing, by whatever it is applied."""
        self.same(trial.barred(event), reason, event)
        before, tally = shown_by(trial), trial.tally()
        told = {"event": event, "reason": reason}
        self.refused(InvalidEvent, told, trial.go, event)
        self.refused(InvalidEvent, told, trial, event)
        self.refused(InvalidEvent, told, trial.tried, event)
        self.refused(InvalidEvent, told, trial.do_all, event)
        self.refused(InvalidEvent, told, trial.do_all, event, keep=True)
        self.same(shown_by(trial), before)
        self.same(trial.tally(), (tally[0] + 4, tally[1] + 4))

    def stands(self, trial, model):
        """The trial shows what the model does."""
        self.same(shown_by(trial), model.shown())
        for thing in things_of(names(model.book), 2) + sorted(at_most(model.book, model.thing)):
            known = model.known(thing)
            self.same(trial[thing], known, thing)
            self.same(thing in trial, known is True, thing)


class Examples(TrialCase):
    def test_the_examples(self):
        trial = Trial(BOOK, "bc")
        self.same(
            [trial.question, trial.ends_left(), trial.answer(False), trial.ends_left()],
            ["c", ("", "a", "ac", "b", "bc", "c"), "b", ("a", "ac", "b", "bc")],
        )
        trial = Trial(BOOK, "bcb", manner="on")
        self.same(
            [trial.table(), trial.told("cb", False), trial.question, trial.answer(True)],
            [["cb      0 -", "bb      0 -", "bc      0 -", "acb     1 -", "bca     1 -"], "bb", "bb", "ab"],
        )
        self.same(
            [trial["ab"], trial["b"], trial["c"], trial.failing, trial.passing, trial.walk_now],
            [None, False, False, ("bb",), ("cb",), ("bcb", "bb")],
        )


class ByTheModel(TrialCase):
    def lead(self, book, x, manner, seed, many):
        """A trial through events, possible and not, and all the way back."""
        trial, model = Trial(book, x, manner=manner), Model(book, x, manner)
        events = pool(x, names(book)[:3])
        self.stands(trial, model)
        shown = [model.shown()]
        for event in picks(seed, events, many):
            reason = model.reason(event)
            if reason is not None:
                self.barred(reason, trial, event)
                continue
            tally = trial.tally()
            self.same(trial.barred(event), None, event)
            model.go(event)
            wanted = (model.thing, model.question(), model.shown()["tries_now"])
            self.same(trial.tried(event), wanted)
            self.same(trial.go(event), model.question(), (model.shown()["log"]))
            self.same(trial.tally(), (tally[0] + 1, tally[1] + 1))
            self.stands(trial, model)
            left = model.ends(7)
            if left is not None:
                self.same(trial.ends_left(), left, model.shown()["log"])
            shown.append(model.shown())
        for event in reversed(shown[-1]["iter"]):
            self.same(shown_by(trial), shown.pop())
            self.same(trial.undo(), event)
        self.same(shown_by(trial), shown[0])
        self.refused(NothingToUndo, {"steps": 0}, trial.undo)
        self.same(shown_by(trial), shown[0])

    def test_books_of_the_examples(self):
        for book, x in [(BOOK, "bcb"), (BACK, "abcb"), (HALVES, "abca"), (PUTS, "bab"), (DROPS, "cabac"), (NO_RULES, "bc")]:
            for manner, seed in itertools.product(MANNERS, range(8)):
                self.lead(book, x, manner, seed, 40)

    def test_many_rules(self):
        for x in ("bb", "bcb", "abbc"):
            for manner, seed in itertools.product(MANNERS, range(8)):
                self.lead(LOWERS, x, manner, seed, 40)

    def test_other_letters(self):
        for x in ("rr", "pz", "qrz"):
            for manner, seed in itertools.product(MANNERS, range(3)):
                self.lead(DIAMOND, x, manner, seed, 25)
        for seed in range(3):
            self.lead(NOTHING, "", "again", seed, 20)
            self.lead(NO_LETTERS, "", "on", seed, 20)
            self.lead((CHAIN_LETTERS, BOOK[1]), "cb", "on", seed, 30)

    def test_all_rows_of_answers(self):
        for book, x in [(BOOK, "bc"), (BACK, "bb"), (HALVES, "abc"), (LOWERS, "bb")]:
            for manner in MANNERS:
                rows = [()]
                while rows:
                    row = rows.pop()
                    trial, model = Trial(book, x, manner=manner), Model(book, x, manner)
                    for it_fails in row:
                        trial.answer(it_fails)
                        model.go(("answer", it_fails))
                    self.same(shown_by(trial), model.shown())
                    left = model.ends(8)
                    if left is not None:
                        self.same(trial.ends_left(), left, (book, x, row))
                    if trial.question is not None and len(row) < 5:
                        rows += [(*row, True), (*row, False)]


class Events(TrialCase):
    def test_answers(self):
        trial = Trial(BOOK, "bc")
        self.same([trial.answer(False), trial.answer(True)], ["b", "a"])
        self.same([trial.thing_now, trial.walk_now, trial.tries_now], ["b", ("bc", "b"), 2])
        self.same([trial.answer(False), trial.thing_now, trial.tries_now], [None, "b", 3])
        self.same([trial.failing, trial.passing, trial.steps_now], [("b",), ("a", "c"), ("", "a")])

    def test_told(self):
        trial = Trial(BOOK, "bc")
        self.same([trial.told("a", True), trial.thing_now, trial.walk_now, trial.tries_now], ["c", "bc", ("bc",), 0])
        trial = Trial(BOOK, "bc")
        self.same([trial.told("c", False), trial.told("a", False), trial.told("b", False)], ["b", "b", "ac"])
        self.same([trial.told("ac", False), trial.thing_now, trial.tries_now, len(trial)], [None, "bc", 0, 4])
        trial = Trial(BOOK, "bc")
        self.same([trial.told("c", True), trial.thing_now, trial.walk_now, trial.tries_now], ["", "c", ("bc", "c"), 0])

    def test_what_is_known_to_fail_is_gone_to_at_once_more_than_once_in_a_row(self):
        trial = Trial(DROPS, "bcab")
        self.same(trial.question, "cab")
        # Each of cab, ab and b is at least a, as a is below b.
        self.same([trial.told("a", True), trial.walk_now], ["", ("bcab", "cab", "ab", "b")])
        trial = Trial(DROPS, "abc")
        # bc is at least c, and so is c itself; the empty thing is asked from there.
        self.same(trial.told("c", True), "")
        self.same([trial.walk_now, trial.thing_now, trial.tries_now], [("abc", "bc", "c"), "c", 0])
        self.same([trial.failing, trial.answer(False), trial.question], [("c",), None, None])
        trial = Trial(DROPS, "aaaa")
        self.same([trial.told("", True), trial.walk_now], [None, ("aaaa", "aaa", "aa", "a", "")])
        self.same([trial.undo(), trial.walk_now, trial.question], [("told", "", True), ("aaaa",), "aaa"])

    def test_only_the_first_of_the_steps_is_gone_to_at_once(self):
        trial = Trial(BOOK, "bc")
        self.same([trial.told("b", True), trial.question, trial.thing_now], ["c", "c", "bc"])
        self.same(trial.table(), ["c       0 -", "b       0 fails", "ac      1 -"])
        self.same([trial.answer(False), trial.walk_now, trial.question], ["a", ("bc", "b"), "a"])
        self.same(trial.table(), ["-       0 passes", "a       1 -"])

    def test_what_is_known_to_pass_is_left_out(self):
        trial = Trial(BOOK, "bcb")
        self.same(trial.told("cb", False), "bb")
        self.same(trial.table(), ["cb      0 passes", "bb      0 -", "bc      0 -", "acb     1 -", "bca     1 -"])
        self.same([trial.told("bca", False), trial.passing], ["bb", ("bca", "cb")])
        self.same([trial["bc"], trial["ca"], trial["a"], trial["bb"]], [False, False, False, None])

    def test_rules_that_come_in_and_are_left_out(self):
        trial = Trial(BOOK, "bc")
        self.same([trial.add_rule(("empty",), 0), trial.book_now[1][0]], ["", ("empty",)])
        self.same([trial.take_rule(0), trial.book_now], ["c", BOOK])
        self.same([trial.add_rule(("half", "left"), 2), trial.book_now[1]], ["c", (*BOOK[1], ("half", "left"))])
        self.same([trial.take_rule(0), trial.question, trial.steps_now], ["ac", "ac", ("ac", "b")])
        self.same([trial.take_rule(0), trial.take_rule(0)], ["b", None])
        self.same([trial.book_now, trial.steps_now, trial.table()], [NO_RULES, (), []])
        self.same(trial.add_rule(("drop", 1, "right"), 0), "b")
        self.same([list(trial)[0], len(trial)], [("rule", ("empty",), 0), 7])

    def test_events_that_leave_the_trial_done_and_make_it_go_on(self):
        trial = Trial(BOOK, "bc")
        self.same([trial.told("c", False), trial.told("b", False), trial.told("ac", False)], ["b", "ac", None])
        self.same([trial.question, trial.ends_left()], [None, ("bc",)])
        self.same([trial.start("bb"), trial.ends_left()], ["ab", ("aa", "ab", "ba", "bb")])
        trial = Trial(NO_RULES, "bc")
        self.same([trial.question, trial.ends_left(), trial.add_rule(("lower", "left"), 0)], [None, ("bc",), "ac"])
        self.same([trial.take_rule(0), trial.question], [None, None])
        trial = Trial(DROPS, "ab")
        self.same([trial.answer(True), trial.answer(False), trial.question], ["", None, None])
        self.same([trial.add_rule(("lower", "right"), 0), trial.question, trial.answer(True)], ["a", "a", None])
        self.same([trial.walk_now, trial.start("c"), trial.walk_now], [("ab", "b", "a"), None, ("c",)])

    def test_start(self):
        trial = Trial(BOOK, "bc")
        trial.answer(True)
        self.same([trial.thing_now, trial.walk_now], ["c", ("bc", "c")])
        self.same([trial.start("bb"), trial.walk_now, trial.failing, trial.tries_now], ["b", ("bb",), ("bb", "c"), 1])
        self.same([trial.start("bc"), trial.walk_now, trial.thing_now], ["", ("bc", "c"), "c"])
        self.same([trial.answer(False), trial.start("ccb"), trial.walk_now], [None, "b", ("ccb", "cb")])
        self.same([trial["cc"], trial["b"], trial["bb"]], [True, None, True])

    def test_manners(self):
        for manner, other in (MANNERS, MANNERS[::-1]):
            trial = Trial(BOOK, "bb", manner=manner)
            self.same(trial.manner_now, manner)
            self.same([trial.set_manner(other), trial.manner_now], ["b", other])
            self.same([trial.answer(False), trial.answer(True), trial.thing_now], ["ab", {"on": "aa", "again": "aa"}[other], "ab"])
            self.same(trial.steps_now, {"on": ("aa", "b", "a"), "again": ("b", "a", "aa")}[other])

    def test_behind_some_events_the_present_thing_is_a_result_of_rule_0(self):
        for event, wanted in [
            (("told", "c", False), ("aa", "b", "a")),
            (("rule", ("half", "left"), 2), ("b", "a", "aa")),
            (("rule", ("half", "left"), 0), ("a", "b", "aa")),
            (("start", "cb"), ("b", "c", "ca")),
        ]:
            trial = Trial(BOOK, "bb", manner="on")
            trial.do_all(("answer", False), ("answer", True))
            self.same(trial.steps_now, ("aa", "b", "a"))
            trial.go(event)
            self.same(trial.steps_now, wanted, event)
            self.same(trial.undo(), event)
            self.same(trial.steps_now, ("aa", "b", "a"))
        trial = Trial(BOOK, "bb", manner="on")
        trial.do_all(("answer", False), ("answer", True), ("manner", "again"), ("manner", "on"))
        self.same(trial.steps_now, ("b", "a", "aa"))
        trial = Trial((LETTERS, (("empty",), *BOOK[1])), "bb", manner="on")
        trial.do_all(("answer", False), ("answer", False), ("answer", True))
        self.same(trial.steps_now, ("aa", "", "b", "a"))
        trial.take_rule(0)
        self.same(trial.steps_now, ("b", "a", "aa"))

    def test_in_the_manner_on_the_rule_that_led_here_comes_first(self):
        trial = Trial(LOWERS, "bb", manner="on")
        self.same([trial.answer(False), trial.thing_now], ["ab", "bb"])
        self.same([trial.table(), trial.answer(False)], [["ba      0 passes", "ab      0 -", "b       1 passes", "-       3 passes"], None])
        trial = Trial(BOOK, "bcb", manner="on")
        trial.do_all(("told", "cb", False), ("told", "bb", False), ("told", "bc", False), ("answer", True))
        self.same(trial.table(), ["aca     1 -", "cb      0 passes", "ab      0 passes", "ac      0 passes"])

    def test_methods_are_events(self):
        for call, event in [
            (lambda trial: trial.answer(True), ("answer", True)),
            (lambda trial: trial.answer(it_fails=False), ("answer", False)),
            (lambda trial: trial.told("b", False), ("told", "b", False)),
            (lambda trial: trial.told(it_fails=True, thing="b"), ("told", "b", True)),
            (lambda trial: trial.add_rule(("empty",), 1), ("rule", ("empty",), 1)),
            (lambda trial: trial.add_rule(at=0, rule=("empty",)), ("rule", ("empty",), 0)),
            (lambda trial: trial.take_rule(1), ("norule", 1)),
            (lambda trial: trial.take_rule(k=0), ("norule", 0)),
            (lambda trial: trial.start("cc"), ("start", "cc")),
            (lambda trial: trial.start(thing=""), ("start", "")),
            (lambda trial: trial.set_manner("on"), ("manner", "on")),
            (lambda trial: trial.set_manner(word="on"), ("manner", "on")),
            (lambda trial: trial.go(("answer", True)), ("answer", True)),
            (lambda trial: trial.go(event=("start", "b")), ("start", "b")),
            (lambda trial: trial(("told", "c", True)), ("told", "c", True)),
            (lambda trial: trial(event=("norule", 0)), ("norule", 0)),
        ]:
            trial, model = Trial(BOOK, "bc"), Model(BOOK, "bc")
            model.go(event)
            self.same(call(trial), model.question(), event)
            self.same(list(trial), [event])
            self.same(trial.tally(), (1, 1))
            self.stands(trial, model)

    def test_methods_accept_any_values(self):
        trial = Trial(BOOK, "bc")
        before = shown_by(trial)
        for one, two in itertools.product(OTHER_VALUES, repeat=2):
            for call, event in [
                (lambda: trial.answer(one), ("answer", one)),
                (lambda: trial.told(one, two), ("told", one, two)),
                (lambda: trial.add_rule(one, two), ("rule", one, two)),
                (lambda: trial.take_rule(one), ("norule", one)),
                (lambda: trial.start(one), ("start", one)),
                (lambda: trial.set_manner(one), ("manner", one)),
                (lambda: trial.go(one), one),
                (lambda: trial(one), one),
            ]:
                reason = Trial(BOOK, "bc").barred(event)
                if reason is None:
                    call()
                    self.same(trial.undo(), event)
                else:
                    self.refused(InvalidEvent, {"event": event, "reason": reason}, call)
                self.same(shown_by(trial), before)

    def test_errors_keep_the_very_event(self):
        given = ["answer", [True]]
        trial = Trial(BOOK, "bc")
        for call in (trial.go, trial, trial.tried, trial.do_all):
            with self.assertRaises(InvalidEvent) as caught:
                call(given)
            self.assertIs(caught.exception.event, given)
        self.same(given, ["answer", [True]])


class Reasons(TrialCase):
    def test_shape(self):
        for trial in (Trial(BOOK, "bc"), Trial(NO_RULES, "a"), Trial(NOTHING, "")):
            for value in NO_EVENTS:
                self.barred("shape", trial, value)

    def test_done(self):
        for trial in (Trial(BOOK, ""), Trial(NO_RULES, "abc"), Trial(NOTHING, "")):
            self.barred("done", trial, ("answer", True))
            self.barred("done", trial, ("answer", False))
        trial = Trial(DROPS, "a")
        trial.answer(False)
        self.barred("done", trial, ("answer", False))

    def test_told(self):
        trial = Trial(BOOK, "bc")
        for it_fails in (True, False):
            for thing in ("d", "ad", "zzz"):
                self.barred("thing", trial, ("told", thing, it_fails))
            self.barred("thing", Trial(NOTHING, ""), ("told", "a", it_fails))
        for thing in ("bc", "bbc", "bcc", "abac"):
            self.barred("same", trial, ("told", thing, True))
            self.barred("against", trial, ("told", thing, False))
        for thing in ("", "ac", "cb", "acab", "bb"):
            self.same([trial.barred(("told", thing, it_fails)) for it_fails in (True, False)], [None, None])
        trial.told("ac", False)
        for thing in ("ac", "a", "c", ""):
            self.barred("same", trial, ("told", thing, False))
            self.barred("against", trial, ("told", thing, True))
        self.same([trial.barred(("told", "b", it_fails)) for it_fails in (True, False)], [None, None])

    def test_start(self):
        trial = Trial(BOOK, "bc")
        for thing in ("d", "ad"):
            self.barred("thing", trial, ("start", thing))
        self.barred("same", trial, ("start", "bc"))
        trial.told("ac", False)
        for thing in ("ac", "a", "c", ""):
            self.barred("against", trial, ("start", thing))
        self.same([trial.barred(("start", thing)) for thing in ("b", "bbc", "cb", "bb")], [None] * 4)
        trial.answer(True)
        self.barred("same", trial, ("start", "b"))
        self.same(trial.barred(("start", "bc")), None)

    def test_rules(self):
        trial = Trial(BOOK, "bc")
        for at in (3, 4, 10 ** 59):
            self.barred("at", trial, ("rule", ("empty",), at))
        for at in (0, 1, 2):
            self.same(trial.barred(("rule", ("empty",), at)), None)
        for k in (2, 3, 10 ** 59):
            self.barred("at", trial, ("norule", k))
        self.same([trial.barred(("norule", k)) for k in (0, 1)], [None, None])
        self.barred("at", Trial(NOTHING, ""), ("norule", 0))
        for rule in [("put", "d", "", "left"), ("put", "a", "d", "left"), ("put", "d", "a", "right"), ("put", "a", "abd", "left")]:
            self.barred("letter", trial, ("rule", rule, 0))
            self.barred("at", trial, ("rule", rule, 3))
        for rule in [
            ("put", "a", "b", "left"), ("put", "a", "c", "left"), ("put", "c", "a", "right"), ("put", "b", "c", "left"),
            ("put", "b", "bb", "left"), ("put", "c", "ab", "left"), ("put", "b", "aa", "left"),
        ]:
            self.barred("falling", trial, ("rule", rule, 2))
            self.barred("at", trial, ("rule", rule, 3))
        for rule in [("put", "b", "a", "left"), ("put", "a", "", "left"), ("put", "c", "", "right")]:
            self.same(trial.barred(("rule", rule, 0)), None)
        chain = Trial((CHAIN_LETTERS, ()), "c")
        self.same([chain.barred(("rule", ("put", "c", lesser, "left"), 0)) for lesser in "ab"], [None, None])

    def test_manner(self):
        for manner, other in (MANNERS, MANNERS[::-1]):
            trial = Trial(BOOK, "bc", manner=manner)
            self.barred("same", trial, ("manner", manner))
            self.same(trial.barred(("manner", other)), None)
            trial.set_manner(other)
            self.barred("same", trial, ("manner", other))

    def test_two_reasons_at_once(self):
        trial = Trial(BOOK, "bc")
        self.barred("at", trial, ("rule", ("put", "d", "ddd", "left"), 9))
        self.barred("letter", trial, ("rule", ("put", "a", "dd", "left"), 0))
        self.barred("shape", trial, ("rule", ("put", "d", "d", "left"), 9))
        self.barred("shape", trial, ("told", "d", 0))
        full = Trial(BOOK, "bc")
        full.do_all(*[("manner", word) for word in ("on", "again") * 20])
        self.barred("shape", full, ("answer", 0))
        for event in [
            ("answer", True), ("told", "d", True), ("told", "bc", False), ("told", "a", True), ("start", "bc"), ("start", "d"),
            ("norule", 9), ("norule", 0), ("rule", ("put", "d", "", "left"), 9), ("manner", "again"), ("manner", "on"),
        ]:
            self.barred("full", full, event)

    def test_thirty_nine_and_forty_events(self):
        self.same(Trial.MOST, 40)
        trial = Trial(BOOK, "bc")
        self.same(trial.MOST, 40)
        words = ("on", "again") * 20
        for k, word in enumerate(words):
            self.same([len(trial), trial.barred(("manner", word))], [k, None])
            self.same(trial.set_manner(word), "c")
        self.same(len(trial), 40)
        self.barred("full", trial, ("answer", True))
        trial.undo()
        self.same([len(trial), trial.barred(("answer", True))], [39, None])
        self.refused(InvalidEvent, {"event": ("answer", False), "reason": "full"}, trial.tried, ("answer", True), ("answer", False))
        self.same(trial.tried(("answer", True)), ("c", "", 1))
        self.refused(InvalidEvent, {"event": ("answer", False), "reason": "full"}, trial.do_all, ("answer", True), ("answer", False))
        self.same(len(trial), 39)
        told = {"event": ("answer", False), "reason": "full"}
        self.refused(InvalidEvent, told, trial.do_all, ("answer", True), ("answer", False), keep=True)
        self.same([len(trial), trial.thing_now], [40, "c"])

    def test_questions_change_and_count_nothing(self):
        trial = Trial(BOOK, "bc")
        trial.answer(False)
        before = shown_by(trial)
        for value in [*NO_EVENTS, *itertools.chain(*pool("bc", "abc"))]:
            trial.barred(value)
            self.same([shown_by(trial), trial.tally()], [before, (1, 1)])
        self.same(trial.barred(event=None), "shape")


class Known(TrialCase):
    def test_items(self):
        trial = Trial(BOOK, "bc")
        trial["ac"] = False
        self.same(list(trial), [("told", "ac", False)])
        self.same([trial[thing] for thing in ("bc", "bbc", "b", "ac", "a", "c", "", "cc")], [True, True, None, False, False, False, False, None])
        trial["b"] = True
        self.same([trial["b"], trial.thing_now, trial.question, trial.tally()], [True, "b", None, (2, 2)])

    def test_assigned_values_that_are_not_possible(self):
        trial = Trial(BOOK, "bc")
        before = shown_by(trial)

        def assign(thing, it_fails):
            trial[thing] = it_fails

        for thing, it_fails, reason in [
            ("d", True, "thing"), ("bc", True, "same"), ("bc", False, "against"), ("A", True, "shape"), (None, True, "shape"),
            ("b", 1, "shape"), ("b", None, "shape"), ((), (), "shape"), (["b"], False, "shape"), (0, True, "shape"),
        ]:
            tally = trial.tally()
            told = {"event": ("told", thing, it_fails), "reason": reason}
            self.refused(InvalidEvent, told, assign, thing, it_fails)
            self.same([shown_by(trial), trial.tally()], [before, (tally[0] + 1, tally[1] + 1)])

    def test_wrong_keys(self):
        trial = Trial(BOOK, "bc")
        before = shown_by(trial)
        for value in (*NO_THINGS, "d", "abd", 10 ** 59, ("told", "a", True), trial):
            self.unusable("thing", lambda key: trial[key], value)
            self.same(value in trial, False)
        self.unusable("thing", lambda key: Trial(NOTHING, "")[key], "a")
        self.same([shown_by(trial), trial.tally()], [before, (0, 0)])
        self.same(["" in Trial(NOTHING, ""), Trial(NOTHING, "")[""]], [True, True])

    def test_failing_and_passing(self):
        trial = Trial(BOOK, "bcb")
        self.same([trial.failing, trial.passing], [("bcb",), ()])
        trial.told("bb", True)
        self.same([trial.failing, trial.passing], [("bb",), ()])
        trial.told("cc", True)
        self.same(trial.failing, ("bb", "cc"))
        trial.told("aba", False)
        trial.told("ac", False)
        self.same(trial.passing, ("aba", "ac"))
        trial.told("abac", False)
        self.same([trial.passing, trial.failing], [("abac",), ("bb", "cc")])
        trial.start("ccc")
        self.same(trial.failing, ("bb", "cc"))
        self.same([trial.undo(), trial.undo(), trial.passing], [("start", "ccc"), ("told", "abac", False), ("aba", "ac")])

    def test_kinds_of_results(self):
        trial = Trial(BOOK, "bcb", manner="on")
        trial.told("cb", False)
        for name in ("book_now", "steps_now", "walk_now", "failing", "passing"):
            self.assertIs(type(getattr(trial, name)), tuple)
        for value in (trial.ends_left(), trial.log(), trial.tally(), trial.tried()):
            self.assertIs(type(value), tuple)
        table = trial.table()
        self.assertIs(type(table), list)
        table.append("x")
        self.same(len(trial.table()), 5)

    def test_equality(self):
        one, two = Trial(BOOK, "bc"), Trial(BOOK, "bc")
        self.same([one == two, one != two, one == one], [True, False, True])
        one.answer(False)
        self.same([one == two, one != two], [False, True])
        two.told("c", False)
        self.same([one == two, shown_by(one)["steps_now"] == shown_by(two)["steps_now"]], [False, True])
        two.undo()
        self.refused(InvalidEvent, {"event": 0, "reason": "shape"}, two.go, 0)
        two(("answer", False))
        self.same([one == two, one.tally() == two.tally()], [True, False])
        for other in [
            Trial(BACK, "bc"), Trial(BOOK, "cb"), Trial(BOOK, "bc", manner="on"), Trial((LETTERS, (*BOOK[1], ("empty",))), "bc"),
        ]:
            self.same([Trial(BOOK, "bc") == other, other == Trial(BOOK, "bc")], [False, False])
        # What it has become does not count, only how.
        on = Trial(BOOK, "bc", manner="on")
        on.set_manner("again")
        self.same([on == Trial(BOOK, "bc"), on != Trial(BOOK, "bc")], [False, True])
        for value in (None, True, 0, 1, "", "-", (), [], one.log(), list(one), str(one), BOOK):
            self.same([one == value, value == one, one != value], [False, False, True])

    def test_logs_and_strings(self):
        trial = Trial(BOOK, "bc", manner="on")
        self.same([trial.log(), str(trial), len(trial), list(trial)], [(("trial", BOOK, "bc", "on"),), "-", 0, []])
        events = [
            ("answer", False), ("rule", ("put", "a", "", "left"), 2), ("told", "bb", False), ("norule", 0), ("manner", "again"),
            ("start", "abc"),
        ]
        trial.do_all(*events)
        self.same([trial.log(), list(trial), len(trial)], [(("trial", BOOK, "bc", "on"), *events), events, 6])
        self.same(str(trial), "answer passes / rule 2 put a - left / told bb passes / norule 0 / manner again / start abc")
        trial.undo()
        self.same(str(trial), "answer passes / rule 2 put a - left / told bb passes / norule 0 / manner again")

    def test_the_log_has_the_beginning(self):
        trial = Trial(BOOK, "bc", manner="on")
        trial.do_all(("manner", "again"), ("norule", 1), ("start", "cc"))
        self.same(trial.log(), (("trial", BOOK, "bc", "on"), ("manner", "again"), ("norule", 1), ("start", "cc")))
        self.same([trial.book_now, trial.thing_now, trial.manner_now], [(LETTERS, BOOK[1][:1]), "cc", "again"])


class Together(TrialCase):
    def test_tried(self):
        trial = Trial(BOOK, "bc")
        trial.answer(False)
        before = shown_by(trial)
        for events, wanted in [
            ((), ("bc", "b", 1)),
            ((("answer", True),), ("b", "a", 2)),
            ((("answer", True), ("answer", False)), ("b", None, 3)),
            ((("told", "a", True), ("manner", "on")), ("a", None, 1)),
            ((("start", "abb"),), ("abb", "bb", 1)),
            ((("norule", 0), ("norule", 0)), ("bc", None, 1)),
        ]:
            self.same(trial.tried(*events), wanted, events)
            self.same([shown_by(trial), trial.tally()], [before, (1, 1)])

    def test_tried_with_events_that_are_not_possible(self):
        trial = Trial(BOOK, "bc")
        before = shown_by(trial)
        for events, k, reason in [
            ((None,), 0, "shape"),
            ((("answer", True), ("answer", True), ("answer", True)), 2, "done"),
            ((("told", "b", True), ("told", "b", True)), 1, "same"),
            ((("told", "b", True), ("told", "bb", False), None), 1, "against"),
            ((("norule", 1), ("norule", 1), 0), 1, "at"),
            ((("manner", "again"), None), 0, "same"),
        ]:
            self.refused(InvalidEvent, {"event": events[k], "reason": reason}, trial.tried, *events)
            self.same([shown_by(trial), trial.tally()], [before, (0, 0)])

    def test_undo_to_the_beginning(self):
        trial = Trial(LOWERS, "bbc")
        events = [("answer", False), ("told", "bb", True), ("rule", ("empty",), 1), ("start", "cbb"), ("manner", "on"), ("norule", 0)]
        rows = [shown_by(trial)]
        for event in events:
            trial.go(event)
            rows.append(shown_by(trial))
        while events:
            self.same(shown_by(trial), rows.pop())
            self.same(trial.undo(), events.pop())
        self.same(shown_by(trial), rows[0])
        for k in range(3):
            self.refused(NothingToUndo, {"steps": 0}, trial.undo)
            self.same([shown_by(trial), trial.tally()], [rows[0], (13 + k, 13 + k)])

    def test_do_all(self):
        events = (("answer", False), ("told", "a", True), ("manner", "on"), ("start", "cb"))
        for keep in ({}, {"keep": False}, {"keep": True}):
            trial, one_by_one = Trial(BOOK, "bc"), Trial(BOOK, "bc")
            self.same(trial.do_all(*events, **keep), 4)
            for event in events:
                one_by_one.go(event)
            self.same([shown_by(trial), trial == one_by_one], [shown_by(one_by_one), True])
            self.same([trial.tally(), one_by_one.tally()], [(1, 1), (4, 4)])
            self.same(trial.undo(), events[-1])
            self.same(trial.do_all(**keep), 0)
            self.same([len(trial), trial.tally()], [3, (3, 3)])

    def test_do_all_with_an_event_that_is_not_possible(self):
        events = [("answer", False), ("told", "ac", True), ("manner", "on"), ("start", "cb")]
        for wrong, reason in [(None, "shape"), (("told", "d", True), "thing"), (("manner", "x"), "shape"), (("norule", 9), "at")]:
            for k in range(5):
                row = events[:k] + [wrong] + events[k:]
                trial = Trial(BOOK, "bc")
                trial.told("cc", False)
                before = shown_by(trial)
                told = {"event": wrong, "reason": reason}
                self.refused(InvalidEvent, told, trial.do_all, *row)
                self.same([shown_by(trial), trial.tally()], [before, (2, 2)])
                self.refused(InvalidEvent, told, trial.do_all, *row, keep=False)
                self.same([shown_by(trial), trial.tally()], [before, (3, 3)])
                other = Trial(BOOK, "bc")
                other.do_all(("told", "cc", False), *events[:k])
                self.refused(InvalidEvent, told, trial.do_all, *row, keep=True)
                self.same([shown_by(trial), trial.tally()], [shown_by(other), (4, 4)])

    def test_keep_is_checked_ahead_of_all_else(self):
        trial = Trial(BOOK, "bc")
        before = shown_by(trial)
        for k, value in enumerate(NO_BOOLS):
            self.unusable("keep", trial.do_all, keep=value)
            self.unusable("keep", trial.do_all, ("answer", True), keep=value)
            self.unusable("keep", trial.do_all, None, ("answer", True), keep=value)
            self.same([shown_by(trial), trial.tally()], [before, (3 * k + 3, 3 * k + 3)])

    def test_tally(self):
        trial = Trial(BOOK, "bc")
        self.same(trial.tally(), (0, 0))
        for k, call in enumerate([
            lambda: trial.answer(False), lambda: trial.told("ab", True), lambda: trial.add_rule(("empty",), 0),
            lambda: trial.take_rule(0), lambda: trial.start("cc"), lambda: trial.set_manner("on"), lambda: trial.go(("start", "b")),
            lambda: trial(("start", "cb")), lambda: trial.undo(), lambda: trial.do_all(), lambda: trial.do_all(("start", "ba")),
            lambda: trial.__setitem__("aca", True),
        ]):
            call()
            self.same(trial.tally(), (k + 1, k + 1))
        shown_by(trial)
        for call in (
            lambda: trial.tried(("manner", "again")), lambda: trial.barred(None), lambda: trial.ends_left(), lambda: trial.table(),
            lambda: trial["a"], lambda: "a" in trial, lambda: trial.log(), lambda: trial == trial, lambda: trial.tally(),
        ):
            call()
            self.same(trial.tally(), (12, 12))
        for k, call in enumerate([
            lambda: trial.answer(0), lambda: trial.told("d", True), lambda: trial.add_rule(("empty",), 99),
            lambda: trial.take_rule(99), lambda: trial.start("d"), lambda: trial.set_manner("on"), lambda: trial.go(None),
            lambda: trial(()), lambda: trial.do_all(("answer", True), None), lambda: trial.__setitem__("d", True),
            lambda: trial.do_all(keep=1), lambda: trial.do_all(None, keep=True),
        ]):
            with self.assertRaises((InvalidEvent, NotUsable)):
                call()
            self.same(trial.tally(), (13 + k, 13 + k))

    def test_trials_stand_by_themselves(self):
        one, two = Trial(BOOK, "bc"), Trial(BOOK, "bc")
        before = shown_by(two)
        one.do_all(("answer", False), ("rule", ("empty",), 0), ("start", "b"))
        self.same([shown_by(two), two.tally()], [before, (0, 0)])
        walk_now, failing = one.walk_now, one.failing
        one.start("cc")
        self.same([walk_now, failing], [("b",), ("b",)])


class Tables(TrialCase):
    def test_tables_by_hand(self):
        self.same(Trial(BOOK, "b").table(), ["-       0 -", "a       1 -"])
        self.same(Trial(NO_RULES, "b").table(), [])
        self.same(Trial(DROPS, "abcabcab").table()[:2], ["bcabcab  0 -", "acabcab  0 -"])
        rules = (*[("drop", 9, "left")] * 10, ("drop", 1, "left"))
        self.same(Trial((LETTERS, rules), "abcabcb").table()[0], "bcabcb 10 -")
        trial = Trial(BOOK, "bc")
        trial.told("ac", False)
        trial.told("b", True)
        self.same([trial.thing_now, trial.table()], ["b", ["-       0 passes", "a       1 passes"]])
        trial = Trial(BOOK, "bc")
        trial.told("ac", True)
        self.same(trial.table(), ["c       0 -", "b       0 -", "ac      1 fails"])

    def test_a_hundred_rules(self):
        rules = (*[("drop", 9, "left")] * 100, ("empty",))
        self.same(Trial((LETTERS, rules), "abc").table(), ["-      100 -"])


class Consequences(TrialCase):
    def test_trials_that_are_answered_by_one_rising_test(self):
        for book, x in [(BOOK, "bcb"), (BACK, "cab"), (HALVES, "abca"), (LOWERS, "bbc"), (PUTS, "bab"), (DIAMOND, "rq")]:
            things = sorted(at_most(book, x))
            for a, b, manner in itertools.product(things[::2], things[1::3], MANNERS):
                test = ("causes", tuple(sorted({a, b})))
                end = walk(book, test, x, manner)[-1][0]
                tries = sum(row[1] for row in walk(book, test, x, manner, True))
                trial = Trial(book, x, manner=manner)
                self.assertIn(end, trial.ends_left())
                while trial.question is not None and len(trial) < 40:
                    before = set(trial.ends_left())
                    trial.answer(fails(book, test, trial.question))
                    self.assertIn(end, trial.ends_left())
                    self.assertLessEqual(set(trial.ends_left()), before)
                self.same([trial.thing_now, trial.ends_left()], [end, (end,)])
                self.assertLessEqual(trial.tries_now, tries)

    def test_told_things_leave_no_further_ends(self):
        for book, x in [(BOOK, "bcb"), (HALVES, "abc"), (LOWERS, "bb")]:
            for thing, it_fails, manner in itertools.product(sorted(at_most(book, x)), (True, False), MANNERS):
                trial = Trial(book, x, manner=manner)
                trial.answer(False)
                before = set(trial.ends_left())
                if trial.barred(("told", thing, it_fails)) is None:
                    trial.told(thing, it_fails)
                    self.assertLessEqual(set(trial.ends_left()), before)

    def test_at_the_beginning_all_that_can_be_found_is_left(self):
        for book, x in [(BOOK, "bcb"), (DROPS, "bca"), (HALVES, "abca"), (PUTS, "cab"), (NO_RULES, "bc")]:
            for manner in MANNERS:
                rows = ranking(book, x, manner)
                wanted = [z for k, z in enumerate(rows) if not any(z in at_most(book, u) for u in rows[:k])]
                self.same(Trial(book, x, manner=manner).ends_left(), tuple(sorted(wanted)))

    def test_a_hundred_things(self):
        trial = Trial(DROPS, "a" * 99)
        self.same(trial.ends_left(), tuple("a" * k for k in range(100)))
        trial.told("a" * 30, False)
        self.same(trial.ends_left(), tuple("a" * k for k in range(31, 100)))
        trial.told("a" * 60, True)
        self.same([trial.thing_now, trial.ends_left()], ["a" * 60, tuple("a" * k for k in range(31, 61))])


class Construction(TrialCase):
    def test_beginnings(self):
        for book in (BOOK, BACK, HALVES, PUTS, NO_RULES, DIAMOND, LOWERS, NOTHING, NO_LETTERS):
            for x, manner in itertools.product(things_of(names(book), 2), MANNERS):
                self.stands(Trial(book, x, manner=manner), Model(book, x, manner))

    def test_defaults_and_names(self):
        self.assertTrue(Trial(manner="again", x="bc", book=BOOK) == Trial(BOOK, "bc"))
        with self.assertRaises(TypeError):
            Trial(BOOK, "bc", "on")
        with self.assertRaises(TypeError):
            Trial(BOOK)

    def test_what_is_no_book(self):
        for value in NO_PAIRS:
            self.refused(InvalidPaper, {"word": "shape", "at": -1}, Trial, value, "a")
            self.refused(InvalidPaper, {"word": "shape", "at": -1}, Trial, value, None, manner=None)
        for letters, rules, word, at in NO_BOOKS:
            self.refused(InvalidPaper, {"word": word, "at": at}, Trial, (letters, rules), "")
            self.refused(InvalidPaper, {"word": word, "at": at}, Trial, (letters, rules), None, manner=None)

    def test_wrong_things_and_manners(self):
        for book in (BOOK, LOOSE):
            for value in (*NO_THINGS, "d", "abd"):
                self.unusable("x", Trial, book, value)
                self.unusable("x", Trial, book, value, manner=None)
            for value in NO_MANNERS:
                self.unusable("manner", Trial, book, "a", manner=value)
        self.unusable("x", Trial, NOTHING, "a")

    def test_books_that_do_not_fall(self):
        for rules, r in [(LOOSE[1], 0), ((*BOOK[1], RULES[15]), 2), ((RULES[10], RULES[14], RULES[16]), 1)]:
            for manner in MANNERS:
                self.refused(NotFalling, {"rule": r}, Trial, (LETTERS, rules), "", manner=manner)

    def test_the_listed_methods_are_defined_in_the_class_itself(self):
        for name in [
            "MOST", "book_now", "manner_now", "thing_now", "question", "steps_now", "walk_now", "tries_now", "failing", "passing",
            "ends_left", "answer", "told", "add_rule", "take_rule", "start", "set_manner", "go", "__call__", "__getitem__",
            "__setitem__", "__contains__", "__iter__", "__len__", "__eq__", "tried", "undo", "do_all", "tally", "barred", "table",
            "log", "__str__", "__init__",
        ]:
            self.assertIn(name, vars(Trial))

    def test_nothing_that_is_shown_can_be_set(self):
        trial = Trial(BOOK, "bc")
        for name in shown_by(trial):
            if name in ("table", "log", "str", "iter", "len"):
                continue
            with self.assertRaises(AttributeError):
                setattr(trial, name, ())

    def test_what_is_handed_in_does_not_change(self):
        given = ["a", ["b"]]
        self.refused(InvalidPaper, {"word": "shape", "at": -1}, Trial, given, given)
        self.unusable("x", Trial, BOOK, given)
        trial = Trial(BOOK, "bc")
        for call in (trial.answer, trial.take_rule, trial.start, trial.set_manner, trial.go, trial, trial.tried, trial.do_all):
            with self.assertRaises(InvalidEvent):
                call(given)
        self.same([trial.barred(given), given in trial, trial == given], ["shape", False, False])
        self.unusable("thing", lambda key: trial[key], given)
        self.same(given, ["a", ["b"]])


if __name__ == "__main__":
    unittest.main()
