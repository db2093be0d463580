"""Points [18], [62], [72], [73]: events and logs, written as lines."""

import itertools
import unittest

from firstfailing.eventtexts import event_line, log_lines
from tests.support import (
    BOOK, BOOKS, LETTERS, LOOSE, NO_LETTERS, NOTHING, RULES, SIX, Case, event_row, log_rows, rule_row, text_of,
)
from tests.test_bookreadings import EVERY_RULE

THINGS = ("", "a", "bc", "zebra", "abc" * 50)
NUMBERS = (0, 1, 9, 10, 10 ** 59, 10 ** 60 - 1)
EVENTS = [
    *[("answer", it_fails) for it_fails in (True, False)],
    *[("told", thing, it_fails) for thing in THINGS for it_fails in (True, False)],
    *[("rule", rule, at) for rule in RULES for at in NUMBERS],
    *[("norule", k) for k in NUMBERS],
    *[("start", thing) for thing in THINGS],
    *[("manner", word) for word in ("again", "on")],
]


class Lines(Case):
    def test_events_by_hand(self):
        for event, line in [
            (("answer", True), "answer fails"),
            (("answer", False), "answer passes"),
            (("told", "", False), "told - passes"),
            (("told", "", True), "told - fails"),
            (("told", "abc", True), "told abc fails"),
            (("told", "z", False), "told z passes"),
            (("rule", ("drop", 2, "left"), 0), "rule 0 drop 2 left"),
            (("rule", ("drop", 12, "right"), 10), "rule 10 drop 12 right"),
            (("rule", ("half", "right"), 3), "rule 3 half right"),
            (("rule", ("lower", "left"), 1), "rule 1 lower left"),
            (("rule", ("empty",), 7), "rule 7 empty"),
            (("rule", ("put", "a", "", "left"), 1), "rule 1 put a - left"),
            (("rule", ("put", "q", "xyz", "right"), 0), "rule 0 put q xyz right"),
            (("norule", 0), "norule 0"),
            (("norule", 12), "norule 12"),
            (("start", ""), "start -"),
            (("start", "ba"), "start ba"),
            (("manner", "again"), "manner again"),
            (("manner", "on"), "manner on"),
            (("norule", 10 ** 59), "norule 1" + "0" * 59),
        ]:
            self.same(event_line(event), line)

    def test_all_forms_of_events(self):
        for event in EVENTS:
            self.same(event_line(event), event_row(event))
        for rule in EVERY_RULE:
            self.same(event_line(("rule", rule, 5)), "rule 5 " + rule_row(rule)[5:])

    def test_numbers_are_no_answers(self):
        self.same(event_line(("norule", 1)), "norule 1")
        self.same(event_line(("rule", ("drop", 1, "left"), 1)), "rule 1 drop 1 left")

    def test_logs_by_hand(self):
        self.same(
            log_lines((("trial", BOOK, "bc", "again"),)),
            ["trial again bc 5", "letter a -", "letter b a", "letter c -", "rule drop 1 left", "rule lower left"],
        )
        self.same(
            log_lines((("trial", (LETTERS[:1], ()), "", "on"), ("answer", True), ("start", ""), ("manner", "on"))),
            ["trial on - 1", "letter a -", "answer fails", "start -", "manner on"],
        )
        self.same(log_lines((("trial", NOTHING, "", "again"),)), ["trial again - 0"])
        self.same(
            log_lines((("trial", NO_LETTERS, "", "on"), ("norule", 2))),
            ["trial on - 4", "rule drop 1 left", "rule half right", "rule empty", "rule lower left", "norule 2"],
        )

    def test_logs(self):
        for book, x, manner in itertools.product(BOOKS, ("", "bc", "zz"), ("again", "on")):
            for many in (0, 1, 5, len(EVENTS)):
                log = (("trial", book, x, manner), *EVENTS[:many])
                lines = log_lines(log)
                self.same(lines, log_rows(log))
                rows = text_of(book).split("\n") if book != NOTHING else []
                self.same(lines[1:1 + len(rows)], rows)
                self.assertEqual(len(lines), 1 + len(rows) + many)

    def test_what_is_read_and_is_no_book_is_written(self):
        book = ((("a", ("a", "z")),), (("put", "q", "xy", "left"),))
        self.same(log_lines((("trial", book, "k", "on"),)), ["trial on k 2", "letter a a,z", "rule put q xy left"])

    def test_results_are_new(self):
        log = (("trial", SIX, "pq", "on"), ("answer", False))
        lines = log_lines(log)
        lines.append("x")
        lines[0] = "y"
        self.same(log_lines(log), log_rows(log))

    def test_arguments_by_name(self):
        self.same(event_line(event=("start", "")), "start -")
        self.same(log_lines(log=(("trial", NOTHING, "", "again"),)), ["trial again - 0"])

    def test_what_is_handed_in_does_not_change(self):
        log = (("trial", LOOSE, "c", "on"), ("told", "c", True))
        log_lines(log)
        self.same(log, (("trial", LOOSE, "c", "on"), ("told", "c", True)))


if __name__ == "__main__":
    unittest.main()
