"""Points [63], [64], [72] to [76]: a desk at which a trial is led by rows."""

import unittest

from firstfailing.desk import Desk
from firstfailing.errors import InvalidEvent, InvalidPaper, InvalidRow, NotFalling, NothingToUndo, NotUsable
from firstfailing.eventtexts import log_lines
from firstfailing.trials import Trial
from tests.support import (
    BACK, BOOK, DIAMOND, DROPS, HALVES, LETTERS, LOOSE, NO_LETTERS, NO_RULES, NOTHING, SIX, Case, event_row, is_falling_book,
    log_rows, names, text_of,
)
from tests.test_eventreadings import SIXTY
from tests.test_rankings import LOWERS
from tests.test_trials import MANNERS, picks, pool
from tests.trialmodel import Model

PLAIN_ROWS = (
    "events", "log", "manner", "tries", "question", "present", "steps", "walk", "failing", "passing", "ends", "table", "book",
)
NO_ROWS = (
    "", " ", "-", ".", "\n", "ok", "undo ", " undo", "Undo", "undo\n", "undo 1", "events ", "steps\n", "logs", "known", "known ",
    "known  -", "known A", "known a ", "known a b", "known --", "known -\n", "known a\n", "bars", "bars ", "bars undo",
    "bars  answer fails", "bars answer", "bars answer fails ", "bars bars answer fails", "bars known a", "Bars answer fails",
    "answer", "answer ", "answer fail", "answer fails ", " answer fails", "answer fails\n", "answer fails\nanswer fails", "told",
    "told a", "told A fails", "told a fails x", "rule", "rule 0", "rule 0 drop 0 left", "rule empty", "rule 01 empty", "norule",
    "norule -1", "norule 00", "norule " + "1" * 61, "start", "start ", "start a b", "manner ", "manner On", "manner on on",
    "manner\n", "trial", "trial again", "trial again -", "trial again - 1", "trial again - 00", "trial again - 0 ",
    "trial again - 0\n", "trial again - 1\n", "trial again - 0\nletter a -", "trial again - 0\nanswer fails",
    "trial again - 1\nletter a -\nanswer fails", "trial again - 2\nletter a -", "trial again - 1\nrule half",
    "trial again - 2\nrule empty\nletter a -", "trial again - 2\nletter b -\nletter a -", "trial On - 0", "\ntrial again - 0",
    "letter a -", "tally", "tried", "do_all", "table ", "passing failing", "present\n",
)


def begin(book, x, manner="again"):
    """The row that begins a trial, as [73] writes it."""
    return "\n".join(log_rows((("trial", book, x, manner),)))


def told(things):
    """Things, as [76] tells them."""
    return " ".join(thing if thing != "" else "-" for thing in things) if things else "."


def shown(model):
    """What each plain row tells."""
    view = model.shown()
    question = model.question()
    return {
        "events": str(view["len"]), "log": view["str"], "manner": model.manner, "tries": str(view["tries_now"]),
        "question": told([] if question is None else [question]), "present": told([model.thing]), "steps": told(view["steps_now"]),
        "walk": told(model.walk), "failing": told(view["failing"]), "passing": told(view["passing"]),
        "table": " / ".join(view["table"]) or "-", "book": " / ".join(text_of(model.book).split("\n")) or "-",
    }


class Desks(Case):
    def test_the_examples(self):
        desk = Desk()
        self.same(
            [
                desk.say("\n".join(log_lines((("trial", BOOK, "bc", "again"),)))), desk.say("question"),
                desk.say("answer passes"), desk.say("answer fails"),
            ],
            ["ok", "c", "b", "a"],
        )
        self.same(
            [desk.say("known -"), desk.say("answer fails"), desk.say("ends"), desk.say("walk"), desk.say("log")],
            ["passes", ".", "a", "bc b a", "answer passes / answer fails / answer fails"],
        )

    def test_rows_by_hand(self):
        desk = Desk()
        self.same(desk.say(begin(BOOK, "bcb", "on")), "ok")
        for row, wanted in [
            ("events", "0"), ("log", "-"), ("manner", "on"), ("tries", "0"), ("question", "cb"), ("present", "bcb"),
            ("steps", "cb bb bc acb bca"), ("walk", "bcb"), ("failing", "bcb"), ("passing", "."),
            ("table", "cb      0 - / bb      0 - / bc      0 - / acb     1 - / bca     1 -"),
            ("book", "letter a - / letter b a / letter c - / rule drop 1 left / rule lower left"),
            ("known bcb", "fails"), ("known cb", "-"), ("known -", "-"), ("known bbcb", "fails"),
            ("bars answer fails", "-"), ("bars told bcb passes", "against"), ("bars told d fails", "thing"),
            ("bars told bcb fails", "same"), ("bars start bcb", "same"), ("bars norule 2", "at"), ("bars rule 3 empty", "at"),
            ("bars rule 0 put d - left", "letter"), ("bars rule 0 put a bb left", "falling"), ("bars manner on", "same"),
            ("bars manner again", "-"), ("bars rule 2 empty", "-"),
            ("told cb passes", "bb"), ("answer fails", "ab"), ("log", "told cb passes / answer fails"),
            ("events", "2"), ("tries", "1"), ("walk", "bcb bb"), ("present", "bb"), ("passing", "cb"), ("failing", "bb"),
            ("steps", "b ab ba"), ("known b", "passes"), ("known ab", "-"), ("known c", "passes"),
            ("table", "b       0 passes / ab      1 - / ba      1 -"), ("ends", "aa ab ba bb"),
            ("told ab fails", "aa"), ("walk", "bcb bb ab"), ("undo", "told ab fails"), ("undo", "answer fails"),
            ("question", "bb"), ("undo", "told cb passes"), ("question", "cb"), ("events", "0"), ("log", "-"),
        ]:
            self.same(desk.say(row), wanted, row)

    def test_nothing_to_tell(self):
        desk = Desk()
        self.same(desk.say(begin(NOTHING, "")), "ok")
        for row, wanted in [
            ("events", "0"), ("log", "-"), ("manner", "again"), ("tries", "0"), ("question", "."), ("present", "-"), ("steps", "."),
            ("walk", "-"), ("failing", "-"), ("passing", "."), ("ends", "-"), ("table", "-"), ("book", "-"), ("known -", "fails"),
            ("bars answer fails", "done"), ("bars manner on", "-"), ("manner on", "."), ("rule 0 empty", "."), ("table", "-"),
            ("book", "rule empty"), ("log", "manner on / rule 0 empty"), ("undo", "rule 0 empty"), ("undo", "manner on"),
        ]:
            self.same(desk.say(row), wanted, row)

    def test_one_thing_and_the_empty_one(self):
        desk = Desk()
        self.same(desk.say(begin((LETTERS, DROPS[1]), "a")), "ok")
        for row, wanted in [
            ("question", "-"), ("steps", "-"), ("ends", "- a"), ("table", "-       0 -"), ("answer fails", "."), ("walk", "a -"),
            ("present", "-"), ("failing", "-"), ("steps", "."), ("known a", "fails"), ("undo", "answer fails"),
            ("answer passes", "."), ("passing", "-"), ("table", "-       0 passes"), ("ends", "a"), ("undo", "answer passes"),
            ("start b", "-"), ("start -", "."), ("log", "start b / start -"), ("walk", "-"),
        ]:
            self.same(desk.say(row), wanted, row)

    def test_each_event(self):
        desk = Desk()
        desk.say(begin(BOOK, "bc"))
        for row, wanted in [
            ("answer passes", "b"), ("answer fails", "a"), ("told a passes", "."), ("rule 0 half left", "."),
            ("rule 3 put b - right", "."), ("norule 0", "."), ("manner on", "."), ("start bcb", "."), ("walk", "bcb cb b"),
        ]:
            self.same(desk.say(row), wanted, row)
        self.same(desk.say("events"), "8")
        self.same(
            desk.say("log"),
            "answer passes / answer fails / told a passes / rule 0 half left / rule 3 put b - right / norule 0 / manner on / "
            "start bcb",
        )

    def lead(self, book, x, manner, seed):
        desk, model = Desk(), Model(book, x, manner)
        self.same(desk.say(begin(book, x, manner)), "ok")
        calls = 1
        for event in picks(seed, pool(x, names(book)[:3]), 30):
            reason = model.reason(event)
            self.same(desk.say("bars " + event_row(event)), reason or "-")
            if reason is None:
                model.go(event)
                self.same(desk.say(event_row(event)), shown(model)["question"])
            else:
                self.refused(InvalidEvent, {"event": event, "reason": reason}, desk.say, event_row(event))
            for row, wanted in shown(model).items():
                self.same(desk.say(row), wanted, (row, model.events))
            left = model.ends(6)
            ends = desk.say("ends")
            if left is not None:
                self.same(ends, told(left))
            for thing in ("", x, x[1:], names(book)[0] if book[0] else ""):
                word = {True: "fails", False: "passes", None: "-"}[model.known(thing)]
                self.same(desk.say("known " + (thing or "-")), word)
            calls += 2 + 12 + 1 + 4
            self.same(desk.tally(), (calls, calls))
        for event in model.events[::-1]:
            self.same(desk.say("undo"), event_row(event))
        self.refused(NothingToUndo, {"steps": 0}, desk.say, "undo")

    def test_rows_by_the_model(self):
        for book, x in [(BOOK, "bcb"), (BACK, "abc"), (HALVES, "abca"), (LOWERS, "bbc"), (DIAMOND, "rqz"), (NO_RULES, "bc"), (NO_LETTERS, "")]:
            for manner in MANNERS:
                for seed in range(2):
                    self.lead(book, x, manner, seed)

    def test_beginnings(self):
        for book in (BOOK, BACK, HALVES, LOWERS, DIAMOND, NO_RULES, NO_LETTERS, NOTHING):
            for x in ("", *names(book), "".join(names(book))):
                for manner in MANNERS:
                    desk = Desk()
                    self.same(desk.say(begin(book, x, manner)), "ok")
                    self.same([desk.say("present"), desk.say("manner"), desk.say("log")], [x or "-", manner, "-"])
                    self.same(desk.say("book"), " / ".join(text_of(book).split("\n")) or "-")

    def test_a_new_trial(self):
        desk = Desk()
        desk.say(begin(BOOK, "bc"))
        desk.say("answer fails")
        self.same([desk.say(begin(BACK, "cb", "on")), desk.say("log"), desk.say("present"), desk.say("manner")], ["ok", "-", "cb", "on"])
        self.refused(NothingToUndo, {"steps": 0}, desk.say, "undo")
        self.same(desk.tally(), (7, 7))

    def test_the_errors_of_trials_leave_what_it_had(self):
        for first in (None, begin(BOOK, "bc", "on")):
            desk = Desk()
            rows = ["answer passes", "log", "book", "present"]
            if first is not None:
                desk.say(first)
                desk.say("answer passes")
            for row, error, fields in [
                ("trial again - 1\nletter a a", InvalidPaper, {"word": "lesser", "at": 0}),
                ("trial again - 2\nletter a b\nletter b a", InvalidPaper, {"word": "ring", "at": 0}),
                ("trial again zz 2\nletter a b\nletter b a", InvalidPaper, {"word": "ring", "at": 0}),
                ("trial again - 2\nletter a -\nrule put b - left", InvalidPaper, {"word": "rule", "at": 0}),
                ("trial again b 1\nletter a -", NotUsable, {"word": "x", "at": -1}),
                ("trial again a 0", NotUsable, {"word": "x", "at": -1}),
                (begin(LOOSE, "a"), NotFalling, {"rule": 0}),
                (begin(LOOSE, "d"), NotUsable, {"word": "x", "at": -1}),
                (begin(SIX, "p"), NotFalling, {"rule": 2}),
            ]:
                self.refused(error, fields, desk.say, row)
            if first is None:
                self.refused(InvalidRow, {"row": "log"}, desk.say, "log")
                self.same(desk.tally(), (10, 10))
            else:
                self.same([desk.say(row) for row in rows[1:]], ["answer passes", " / ".join(text_of(BOOK).split("\n")), "bc"])
        self.assertFalse(is_falling_book(SIX))

    def test_ahead_of_the_first_trial(self):
        desk = Desk()
        rows = (*PLAIN_ROWS, "undo", "known -", "known a", "bars answer fails", "answer fails", "start -", "manner on", *NO_ROWS)
        for k, row in enumerate(rows):
            self.refused(InvalidRow, {"row": row}, desk.say, row)
            self.same(desk.tally(), (k + 1, k + 1))
        self.same(desk.say(begin(BOOK, "bc")), "ok")

    def test_rows_that_are_not_known(self):
        desk = Desk()
        desk.say(begin(BOOK, "bc"))
        desk.say("answer passes")
        for k, row in enumerate(NO_ROWS):
            self.refused(InvalidRow, {"row": row}, desk.say, row)
            self.same(desk.tally(), (k + 3, k + 3))
        self.same([desk.say("log"), desk.say("present")], ["answer passes", "bc"])
        with self.assertRaises(InvalidRow) as caught:
            row = "no row " + SIXTY
            desk.say(row)
        self.assertIs(caught.exception.row, row)

    def test_the_errors_of_the_trial(self):
        desk = Desk()
        desk.say(begin(BOOK, "bc"))
        for row, error, fields in [
            ("undo", NothingToUndo, {"steps": 0}),
            ("known d", NotUsable, {"word": "thing", "at": -1}),
            ("known abd", NotUsable, {"word": "thing", "at": -1}),
            ("told d fails", InvalidEvent, {"event": ("told", "d", True), "reason": "thing"}),
            ("told bc passes", InvalidEvent, {"event": ("told", "bc", False), "reason": "against"}),
            ("told bbc fails", InvalidEvent, {"event": ("told", "bbc", True), "reason": "same"}),
            ("start bc", InvalidEvent, {"event": ("start", "bc"), "reason": "same"}),
            ("norule 2", InvalidEvent, {"event": ("norule", 2), "reason": "at"}),
            ("norule " + SIXTY, InvalidEvent, {"event": ("norule", int(SIXTY)), "reason": "at"}),
            ("rule 3 empty", InvalidEvent, {"event": ("rule", ("empty",), 3), "reason": "at"}),
            ("rule 0 put a d left", InvalidEvent, {"event": ("rule", ("put", "a", "d", "left"), 0), "reason": "letter"}),
            ("rule 0 put a b left", InvalidEvent, {"event": ("rule", ("put", "a", "b", "left"), 0), "reason": "falling"}),
            ("manner again", InvalidEvent, {"event": ("manner", "again"), "reason": "same"}),
        ]:
            self.refused(error, fields, desk.say, row)
            self.same([desk.say("log"), desk.say("question")], ["-", "c"])
        for _ in range(20):
            desk.say("manner on")
            desk.say("manner again")
        self.same([desk.say("events"), desk.say("bars answer fails")], ["40", "full"])
        self.refused(InvalidEvent, {"event": ("answer", True), "reason": "full"}, desk.say, "answer fails")

    def test_desks_stand_by_themselves(self):
        one, two = Desk(), Desk()
        one.say(begin(BOOK, "bc"))
        self.refused(InvalidRow, {"row": "log"}, two.say, "log")
        two.say(begin(BOOK, "bc"))
        one.say("answer fails")
        self.same([one.say("log"), two.say("log"), one.tally(), two.tally()], ["answer fails", "-", (3, 3), (3, 3)])

    def test_tally(self):
        desk = Desk()
        self.same([desk.tally(), desk.tally()], [(0, 0), (0, 0)])
        self.assertIs(type(desk.tally()), tuple)
        desk.say(row=begin(BOOK, "bc"))
        self.same([desk.tally(), desk.say(row="question"), desk.tally()], [(1, 1), "c", (2, 2)])

    def test_the_listed_methods_are_defined_in_the_class_itself(self):
        for name in ("say", "tally", "__init__"):
            self.assertIn(name, vars(Desk))
        with self.assertRaises(TypeError):
            Desk(Trial(BOOK, "bc"))


if __name__ == "__main__":
    unittest.main()
