"""Points [62] to [69], [72]: logs of trials, and trials that are led by them."""

import itertools
import unittest

from firstfailing.eventreadings import read_log
from firstfailing.eventtexts import log_lines
from firstfailing.errors import InvalidEvent
from firstfailing.replaying import is_log, replayed
from firstfailing.trials import Trial
from tests.support import (
    BACK, BOOK, CHAIN, DIAMOND, GROWING, HALVES, LETTERS, LOOSE, NO_LETTERS, NO_MANNERS, NO_RULES, NO_THINGS, NOTHING,
    PUTS, Case, names,
)
from tests.test_bookchecker import NO_PAIRS
from tests.test_bookclasses import NO_BOOKS
from tests.test_trials import MANNERS, NO_EVENTS, picks, pool
from tests.trialmodel import Model, shown_by

BEGINNING = ("trial", BOOK, "bc", "again")
EVENTS = (
    ("answer", False), ("rule", ("put", "a", "", "left"), 2), ("told", "bb", False), ("norule", 0), ("manner", "on"),
    ("start", "abc"), ("answer", True),
)
NO_LOGS = (
    None, True, 0, 1, "", "trial", "trial again bc 5", (), [], ("trial",), BEGINNING, [BEGINNING], list(BEGINNING), (list(BEGINNING),),
    (BEGINNING[:3],), ((*BEGINNING, 0),), (("Trial", *BEGINNING[1:]),), ((None, *BEGINNING[1:]),), ((["trial"], *BEGINNING[1:]),),
    (BEGINNING[1:],), (("answer", True),), (("answer", True), BEGINNING), (None,), ("trial", BOOK, "bc", "again", ("answer", True)),
    (BEGINNING, (("answer", True),)), (BEGINNING, BEGINNING), (BEGINNING, [("answer", True)]), ((BEGINNING,),), BOOK,
)


class Logs(Case):
    def says(self, thing, wanted):
        """Whether it is a log; what is none is not replayed."""
        self.same(is_log(thing), wanted, thing)
        if not wanted:
            self.unusable("log", replayed, thing)

    def test_beginnings(self):
        for book in (BOOK, BACK, HALVES, PUTS, NO_RULES, NOTHING, NO_LETTERS, CHAIN, DIAMOND):
            for x, manner in itertools.product(("", *names(book)), MANNERS):
                log = (("trial", book, x, manner),)
                self.says(log, True)
                self.assertTrue(replayed(log) == Trial(book, x, manner=manner))

    def test_other_values(self):
        for value in NO_LOGS:
            self.says(value, False)

    def test_beginnings_of_which_no_trial_can_be_made(self):
        for events in ((), EVENTS[:1], (None,)):
            for book in (*[row[:2] for row in NO_BOOKS], *NO_PAIRS, LOOSE, GROWING, (LETTERS, (*BOOK[1], ("put", "a", "b", "left")))):
                self.says((("trial", book, "bc", "again"), *events), False)
            for value in (*NO_THINGS, "d", "bcd"):
                self.says((("trial", BOOK, value, "again"), *events), False)
            for value in NO_MANNERS:
                self.says((("trial", BOOK, "bc", value), *events), False)
        self.says((("trial", NOTHING, "a", "again"),), False)

    def test_events_possible_or_not(self):
        for events in [
            EVENTS, EVENTS[::-1], (("answer", True),) * 50, (("told", "d", True),), (("norule", 10 ** 59),), (("start", "zzz"),),
            (("rule", ("put", "x", "yy", "left"), 99),), (("manner", "again"),),
        ]:
            self.says((BEGINNING, *events), True)

    def test_events_that_are_none_by_form(self):
        for value in (*NO_EVENTS, BEGINNING):
            self.says((BEGINNING, value), False)
            self.says((BEGINNING, *EVENTS, value), False)
            self.says((BEGINNING, value, *EVENTS), False)

    def test_logs_of_trials_and_of_lines(self):
        trial = Trial(BOOK, "bc", manner="on")
        self.says(trial.log(), True)
        for event in EVENTS[:4]:
            trial.go(event)
            self.says(trial.log(), True)
            self.same(read_log(log_lines(trial.log())), trial.log())
            self.assertTrue(replayed(read_log(log_lines(trial.log()))) == trial)
        self.says(list(trial.log()), False)
        # What is read may have a book that is none, or does not fall.
        self.says(read_log(["trial again - 1", "letter a b"]), False)
        self.says(read_log(["trial again - 2", "letter a -", "rule put a aa left"]), False)
        self.says(read_log(["trial again - 1", "letter a -", "answer fails"]), True)


class Replayed(Case):
    def lead(self, book, x, manner, seed, many):
        """A trial through possible events, and one that is led by its log."""
        trial, model = Trial(book, x, manner=manner), Model(book, x, manner)
        for event in picks(seed, pool(x, names(book)[:3]), many):
            if model.reason(event) is None:
                model.go(event)
                trial.go(event)
        other = replayed(trial.log())
        self.assertIs(type(other), Trial)
        self.assertTrue(other == trial)
        self.same(shown_by(other), model.shown())
        self.same(shown_by(other), shown_by(trial))
        self.same(other.ends_left(), trial.ends_left())
        self.same(other.tally(), (0, 0))
        for event in reversed(model.events):
            self.same(other.undo(), event)
        self.same(other.tally(), (len(model.events),) * 2)
        self.same(shown_by(other), shown_by(Trial(book, x, manner=manner)))
        self.same(shown_by(trial), model.shown())

    def test_trials(self):
        for book, x in [(BOOK, "bcb"), (BACK, "abc"), (HALVES, "abca"), (PUTS, "bab"), (NO_RULES, "bc"), (DIAMOND, "pr")]:
            for manner, seed in itertools.product(MANNERS, range(6)):
                self.lead(book, x, manner, seed, 30)

    def test_all_events(self):
        other = replayed((BEGINNING, *EVENTS))
        trial = Trial(BOOK, "bc")
        trial.do_all(*EVENTS)
        self.same(shown_by(other), shown_by(trial))
        self.same([other.log(), other.tally(), trial.tally()], [(BEGINNING, *EVENTS), (0, 0), (1, 1)])
        self.same(other.answer(False), trial.answer(False))
        self.same(other.tally(), (1, 1))

    def test_each_result_is_new(self):
        log = (BEGINNING, *EVENTS[:2])
        one, two = replayed(log), replayed(log)
        self.assertIsNot(one, two)
        one.answer(True)
        self.same([one == two, two.log()], [False, log])

    def test_an_event_that_is_not_possible_at_each_place(self):
        for wrong, reason in [
            (("told", "d", True), "thing"), (("told", "abcd", False), "thing"), (("start", "d"), "thing"), (("norule", 9), "at"),
            (("rule", ("empty",), 9), "at"), (("rule", ("put", "d", "", "left"), 0), "letter"), (("told", "bc", False), "against"),
            (("rule", ("put", "a", "b", "left"), 0), "falling"), (("told", "bcc", True), "same"),
        ]:
            for k in range(len(EVENTS) + 1):
                log = (BEGINNING, *EVENTS[:k], wrong, *EVENTS[k:])
                self.same(is_log(log), True)
                self.refused(InvalidEvent, {"event": wrong, "reason": reason}, replayed, log)
                # The first of two is told.
                self.refused(InvalidEvent, {"event": wrong, "reason": reason}, replayed, (*log, ("start", "d")))

    def test_other_reasons(self):
        for events, k, reason in [
            ((("answer", True),) * 3, 2, "done"), ((("manner", "on"), ("manner", "on")), 1, "same"), ((("start", "bc"),), 0, "same"),
            ((("told", "c", False), ("start", "c")), 1, "against"), ((("norule", 0), ("norule", 1)), 1, "at"),
        ]:
            told = {"event": events[k], "reason": reason}
            self.refused(InvalidEvent, told, replayed, (BEGINNING, *events))

    def test_forty_and_forty_one_events(self):
        row = (("manner", "on"), ("manner", "again")) * 20
        self.same(len(replayed((BEGINNING, *row))), 40)
        for last in [("manner", "on"), ("answer", True), ("told", "d", True)]:
            log = (BEGINNING, *row, last)
            self.same(is_log(log), True)
            self.refused(InvalidEvent, {"event": last, "reason": "full"}, replayed, log)

    def test_arguments_by_name(self):
        self.same(is_log(thing=(BEGINNING,)), True)
        self.assertTrue(replayed(log=(BEGINNING,)) == Trial(BOOK, "bc"))

    def test_what_is_handed_in_does_not_change(self):
        given = [BEGINNING, ["answer", True]]
        self.same([is_log(given), is_log(tuple(given))], [False, False])
        self.unusable("log", replayed, given)
        self.unusable("log", replayed, tuple(given))
        self.same(given, [BEGINNING, ["answer", True]])


if __name__ == "__main__":
    unittest.main()
