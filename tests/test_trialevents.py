"""Points [2], [11], [62]: what is an event by form."""

import unittest

from firstfailing.trialevents import is_event
from tests.support import NO_BOOLS, NO_NUMBERS, NO_THINGS, RULES, Case, shown
from tests.test_bookchecker import NO_RULES_AT_ALL
from tests.test_eventtexts import EVENTS

PARTS = (
    None, True, False, 0, 1, -1, 10 ** 59, "", "a", "bc", "A", "a b", "a\n", "again", "on", "On", "fails", (), ("a",), [],
    ("empty",), ["empty"], ("drop", 1, "left"), ("drop", 0, "left"), ("drop", True, "left"), ("put", "z", "", "left"),
    ("put", "a", "a", "left"), (("empty",),), "left", ("answer", True),
)
WORDS = ("answer", "told", "rule", "norule", "start", "manner")


def is_right(thing):
    """Whether it is an event, by the forms one after the other."""
    booleans = [part for part in PARTS if type(part) is bool]
    numbers = [part for part in PARTS if type(part) is int and part >= 0]
    things = ["", "a", "bc", "again", "on", "fails", "left"]
    rules = [("empty",), ("drop", 1, "left"), ("put", "z", "", "left")]
    rows = [("answer", part) for part in booleans]
    rows += [("told", part, it_fails) for part in things for it_fails in booleans]
    rows += [("rule", rule, at) for rule in rules for at in numbers]
    rows += [("norule", k) for k in numbers]
    rows += [("start", part) for part in things]
    rows += [("manner", "again"), ("manner", "on")]
    return any(shown(thing) == shown(row) for row in rows)


class Events(Case):
    def test_events(self):
        for event in EVENTS:
            self.same(is_event(event), True, event)
        for rule in RULES:
            self.same(is_event(("rule", rule, 99)), True)
        for event in [("rule", ("put", "q", "xyz", "left"), 0), ("rule", ("drop", 10 ** 59, "right"), 10 ** 59)]:
            self.same(is_event(event), True)

    def test_all_short_rows_of_parts(self):
        for word in (*WORDS, "Answer", "", "tell", "-", None, True, 0, ("told",)):
            self.same(is_event((word,)), False, word)
            for one in PARTS:
                self.same(is_event((word, one)), is_right((word, one)), (word, one))
                for two in PARTS:
                    self.same(is_event((word, one, two)), is_right((word, one, two)), (word, one, two))
                    self.same(is_event((word, one, two, one)), False)

    def test_wrong_parts(self):
        for value in NO_BOOLS:
            self.same([is_event(("answer", value)), is_event(("told", "a", value))], [False, False], value)
        for value in NO_THINGS:
            self.same([is_event(("told", value, True)), is_event(("start", value))], [False, False], value)
        for value in NO_NUMBERS:
            self.same([is_event(("norule", value)), is_event(("rule", ("empty",), value))], [False, False], value)
        for value in NO_RULES_AT_ALL:
            self.same(is_event(("rule", value, 0)), False, value)
        for value in ("", "On", "again ", "left", None, True, 0, ("on",), ["on"], []):
            self.same(is_event(("manner", value)), False, value)

    def test_other_values(self):
        for value in (None, True, False, 0, 1, "", "answer", "answer fails", (), [], ["answer", True], ((),), ([],)):
            self.same(is_event(value), False, value)
        for event in EVENTS:
            self.same(is_event(list(event)), False)
            self.same(is_event((event,)), False)
            self.same(is_event((list(event[:1]), *event[1:])), False)

    def test_the_argument_by_name(self):
        self.same(is_event(thing=("answer", True)), True)

    def test_what_is_handed_in_does_not_change(self):
        given = ["told", ["a"], True]
        self.same([is_event(given), is_event(("told", given, True)), is_event(("rule", given, 0))], [False] * 3)
        self.same(given, ["told", ["a"], True])


if __name__ == "__main__":
    unittest.main()
