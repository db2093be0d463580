"""Points [18], [19], [62], [73], [74]: events and logs, read from lines."""

import itertools
import unittest

from firstfailing.bookreadings import book_read
from firstfailing.errors import InvalidText
from firstfailing.eventreadings import read_event, read_log
from firstfailing.eventtexts import event_line, log_lines
from firstfailing.trialevents import is_event
from tests.support import BACK, BOOK, BOOKS, LETTERS, LOOSE, NO_LETTERS, NOTHING, SIX, Case, event_row, log_rows
from tests.test_bookreadings import EVERY_RULE, NAMES, SIXTY, SMALL, WORDS
from tests.test_eventtexts import EVENTS

NUMBERS = ("0", "1", "2", "12", SIXTY, "1" * 60)
MORE_WORDS = (*WORDS, "answer", "told", "norule", "start", "manner", "trial", "fails", "passes", "Fails", "again", "on", "On")
THINGS = ("", *SMALL, "answer", "told", "norule", "start", "manner", "trial", "fails", "passes", "again", "on")
# All rules and events of which each word is one of MORE_WORDS.
RULES_OF_WORDS = [
    *[rule for rule in EVERY_RULE if rule[0] != "put"],
    *[("put", letter, word, side) for letter in NAMES for word in THINGS if word != letter for side in ("left", "right")],
]
EVERY_EVENT = [
    *[("answer", it_fails) for it_fails in (True, False)],
    *[("told", thing, it_fails) for thing in THINGS for it_fails in (True, False)],
    *[("rule", rule, int(at)) for rule in RULES_OF_WORDS for at in NUMBERS],
    *[("norule", int(k)) for k in NUMBERS],
    *[("start", thing) for thing in THINGS],
    *[("manner", word) for word in ("again", "on")],
]


class Reading(Case):
    def stops(self, line, field, text):
        """The event, or the log, is not possible from this field of this line on."""
        call = read_event if isinstance(text, str) else read_log
        self.refused(InvalidText, {"line": line, "field": field}, call, text)


class OneEvent(Reading):
    def test_the_examples(self):
        self.same(
            [read_event("told - passes"), read_event("rule 0 drop 2 left"), read_event("answer fails")],
            [("told", "", False), ("rule", ("drop", 2, "left"), 0), ("answer", True)],
        )
        self.stops(0, 3, "rule 0 drop 0 left")

    def test_what_is_written_is_read_again(self):
        for event in [*EVENTS, *EVERY_EVENT]:
            self.same(read_event(event_row(event)), event)
            self.same(read_event(event_line(event)), event)

    def test_lines_word_by_word(self):
        """A word can stand just where a written line begins with it and the words before it."""
        whole = {tuple(event_row(event).split(" ")) for event in EVERY_EVENT}
        starts = {row[:k] for row in whole for k in range(len(row) + 1)}
        for start in sorted(starts):
            if start and start not in whole:
                self.stops(0, len(start), " ".join(start))
            for word in MORE_WORDS:
                row = (*start, word)
                if row in starts:
                    continue
                for tail in [(), ("",), ("fails",), ("left", "left")]:
                    self.stops(0, len(start), " ".join((*row, *tail)))

    def test_what_is_read_is_written_again(self):
        many = 0
        for words in itertools.product(["answer", "told", "start", "manner", "norule", "rule"], [w for w in MORE_WORDS if w]):
            for tail in ("", " fails", " passes", " empty", " half left"):
                text = " ".join(words) + tail
                try:
                    event = read_event(text)
                except InvalidText:
                    continue
                self.assertTrue(is_event(event))
                self.same(event_line(event), text)
                many += 1
        self.assertGreater(many, 100)

    def test_wrong_lines_by_hand(self):
        for text, field in [
            ("", 0), (" ", 0), ("  ", 0), ("answers fails", 0), ("Answer fails", 0), (" answer fails", 0), ("fails", 0),
            ("undo", 0), ("letter a -", 0), ("trial again - 0", 0), ("\n", 0), ("answer\n", 0), ("\nanswer fails", 0),
            ("answer", 1), ("answer ", 1), ("answer  fails", 1), ("answer fail", 1), ("answer True", 1), ("answer -", 1),
            ("answer fails\n", 1), ("answer fails ", 2), ("answer fails passes", 2), ("answer passes -", 2),
            ("told", 1), ("told ", 1), ("told  fails", 1), ("told A fails", 1), ("told -- fails", 1), ("told a- fails", 1),
            ("told a\nb fails", 1), ("told a", 2), ("told a ", 2), ("told - -", 2), ("told fails", 2), ("told a  fails", 2),
            ("told a fails ", 3), ("told a fails fails", 3), ("told a b fails", 2),
            ("rule", 1), ("rule ", 1), ("rule empty", 1), ("rule drop 2 left", 1), ("rule -1 empty", 1), ("rule 01 empty", 1),
            ("rule 00 empty", 1), ("rule +1 empty", 1), ("rule 0\n empty", 1), ("rule 1_0 empty", 1), ("rule a empty", 1),
            ("rule " + "1" * 61 + " empty", 1), ("rule 0", 2), ("rule 0 ", 2), ("rule 0  empty", 2), ("rule 0 swap", 2),
            ("rule 0 rule empty", 2), ("rule 0 empty ", 3), ("rule 0 empty left", 3), ("rule 0 half", 3),
            ("rule 0 half up", 3), ("rule 0 half left ", 4), ("rule 0 drop", 3), ("rule 0 drop 0 left", 3),
            ("rule 0 drop 01 left", 3), ("rule 0 drop " + "1" * 61 + " left", 3), ("rule 0 drop 1", 4),
            ("rule 0 drop 1 up", 4), ("rule 0 drop 1 left left", 5), ("rule 0 put", 3), ("rule 0 put ab - left", 3),
            ("rule 0 put a", 4), ("rule 0 put a a left", 4), ("rule 0 put a  left", 4), ("rule 0 put a -", 5),
            ("rule 0 put a - up", 5), ("rule 0 put a - left left", 6), ("rule 0 lower left\n", 3),
            ("norule", 1), ("norule ", 1), ("norule -", 1), ("norule 01", 1), ("norule 00", 1), ("norule -1", 1),
            ("norule 0" + "1" * 59, 1), ("norule " + "1" * 61, 1), ("norule 1\n", 1), ("norule 1 ", 2), ("norule 1 1", 2),
            ("start", 1), ("start ", 1), ("start  a", 1), ("start A", 1), ("start 1", 1), ("start --", 1), ("start a ", 2),
            ("start a b", 2), ("start - -", 2), ("manner", 1), ("manner ", 1), ("manner On", 1), ("manner again\n", 1),
            ("manner fails", 1), ("manner on ", 2), ("manner on on", 2), ("manner  on", 1),
        ]:
            self.stops(0, field, text)

    def test_numbers_of_sixty_digits(self):
        self.same(read_event("norule " + SIXTY), ("norule", int(SIXTY)))
        self.same(read_event("norule 1" + "0" * 59), ("norule", 10 ** 59))
        self.same(read_event("norule 0"), ("norule", 0))
        self.same(read_event("rule " + SIXTY + " drop " + SIXTY + " right"), ("rule", ("drop", int(SIXTY), "right"), int(SIXTY)))
        self.stops(0, 1, "norule 1" + "0" * 60)
        self.stops(0, 1, "rule 1" + "0" * 60 + " empty")

    def test_letters_of_no_book_are_read(self):
        self.same(read_event("told zq fails"), ("told", "zq", True))
        self.same(read_event("rule 3 put q xyz left"), ("rule", ("put", "q", "xyz", "left"), 3))

    def test_the_argument_by_name(self):
        self.same(read_event(text="start -"), ("start", ""))


LOG = (
    ("trial", BOOK, "bc", "again"), ("answer", False), ("rule", ("put", "a", "", "left"), 2), ("told", "", True),
    ("manner", "on"), ("norule", 0), ("start", "abc"), ("rule", ("drop", 2, "right"), 1),
)


def verdict(lines):
    """What read_log is to raise, as a line and a field; None if it is to return."""
    words = lines[0].split(" ") if lines else []
    for field, right in enumerate([
        lambda word: word == "trial", lambda word: word in ("again", "on"),
        lambda word: word == "-" or (word != "" and all(sign in "abcdefghijklmnopqrstuvwxyz" for sign in word)),
        lambda word: 0 < len(word) <= 60 and all(sign in "0123456789" for sign in word) and (word == "0" or word[0] != "0"),
    ]):
        if len(words) <= field or not right(words[field]):
            return (0, field)
    if len(words) > 4:
        return (0, 4)
    many = int(words[3])
    rows = lines[1:1 + many]
    for k, row in enumerate(rows):
        try:
            book_read("\n".join(rows[:k + 1]) if row != "" else "\n")
        except InvalidText as told:
            return (1 + k, told.field)
    if len(rows) < many:
        return (len(lines), 0)
    for k in range(1 + many, len(lines)):
        try:
            read_event(lines[k])
        except InvalidText as told:
            return (k, told.field)
    return None


class Logs(Reading):
    def reads(self, lines, wanted=None):
        """The log is read, or is not, as it is to be; and it stops there, if told."""
        before = list(lines)
        told = verdict(lines)
        if wanted is not None:
            self.same(told, wanted, lines)
        if told is None:
            log = read_log(lines)
            self.same(log_rows(log), lines)
        else:
            self.stops(*told, lines)
        self.same(lines, before)

    def test_logs(self):
        for book, x, manner in itertools.product(BOOKS, ("", "bc", "zz"), ("again", "on")):
            for events in [(), EVENTS[:1], EVENTS[::-9], EVERY_EVENT[::31]]:
                log = (("trial", book, x, manner), *events)
                self.same(read_log(log_rows(log)), log)
                self.same(read_log(log_lines(log)), log)
                self.same(log_lines(read_log(log_rows(log))), log_rows(log))

    def test_what_is_no_book_is_read(self):
        for book in [
            ((("a", ("a",)),), ()), ((("a", ("b",)), ("b", ("a",))), ()), ((), (("put", "q", "xy", "left"),)), LOOSE,
            ((("b", ("x", "z")),), (("put", "a", "bb", "right"), ("drop", int(SIXTY), "left"))),
        ]:
            log = (("trial", book, "kk", "on"), ("told", "zz", True), ("answer", True), ("norule", 99))
            self.same(read_log(log_rows(log)), log)

    def test_kinds_of_results(self):
        log = read_log(["trial again - 0"])
        self.same(log, (("trial", ((), ()), "", "again"),))
        self.same(read_log(["trial on a 1", "rule empty", "answer fails"]), (("trial", ((), (("empty",),)), "a", "on"), ("answer", True)))
        self.same(read_log(lines=["trial again - 0"]), log)

    def test_the_first_line(self):
        for line, field in [
            ("", 0), ("trials again - 0", 0), ("Trial again - 0", 0), (" trial again - 0", 0), ("answer fails", 0),
            ("again - 0", 0), ("trial", 1), ("trial ", 1), ("trial On - 0", 1), ("trial - again 0", 1), ("trial  again - 0", 1),
            ("trial again", 2), ("trial again ", 2), ("trial again A 0", 2), ("trial again  0", 2), ("trial again 0", 2),
            ("trial again -- 0", 2), ("trial again -", 3), ("trial again - ", 3), ("trial again - a", 3),
            ("trial again - 00", 3), ("trial again - 01", 3), ("trial again - -1", 3), ("trial again - +1", 3),
            ("trial again - " + "1" * 61, 3), ("trial again - 0 ", 4), ("trial again - 0 0", 4), ("trial again - 0 x", 4),
        ]:
            self.reads([line], (0, field))
            self.reads([line, "letter a -"], (0, field))
            self.reads([line, "?", "?"], (0, field))

    def test_missing_lines(self):
        self.reads([], (0, 0))
        self.reads(["trial again - 1"], (1, 0))
        self.reads(["trial again - " + SIXTY], (1, 0))
        self.reads(["trial again - 3", "letter a -"], (2, 0))
        self.reads(["trial again - 3", "letter a -", "letter b -"], (3, 0))
        self.reads(["trial again - 3", "letter a -", "rule half left"], (3, 0))
        self.reads(["trial again - " + SIXTY, "letter a -", "rule empty"], (3, 0))
        self.reads(["trial again - 3", "letter a -", "letter a -"], (2, 1))
        self.reads(["trial again - 3", "letter a -", "rule half"], (2, 2))
        self.reads(["trial again - 3", "rule empty", "letter a -"], (2, 0))

    def test_empty_lines(self):
        self.reads(["trial again - 1", ""], (1, 0))
        self.reads(["trial again - 2", "", ""], (1, 0))
        self.reads(["trial again - 2", "letter a -", ""], (2, 0))
        self.reads(["trial again - 0", ""], (1, 0))
        self.reads(["trial again - 1", "rule empty", ""], (2, 0))
        self.reads(["trial again - 1", "rule empty", "answer fails", ""], (3, 0))
        self.reads(["", "trial again - 0"], (0, 0))

    def test_too_many_and_too_few_lines_of_a_book(self):
        rows = log_rows(LOG)
        for many in range(20):
            first = f"trial again bc {many}"
            self.reads([first, *rows[1:]])
            self.reads([first, *rows[1:6]])
        self.reads(["trial again bc 4", *rows[1:6]], (5, 1))
        self.reads(["trial again bc 2", *rows[1:6]], (3, 0))
        self.reads(["trial again bc 6", *rows[1:6]], (6, 0))
        self.reads(["trial again bc 6", *rows[1:]], (6, 0))
        self.reads(["trial again bc 7", *rows[1:6], "rule empty", "answer fails"], (7, 0))
        self.reads(["trial again bc 6", *rows[1:6], "rule empty", "answer fails"])
        # A line of a rule that comes in is no line of a book, and the other way round.
        self.reads(["trial again - 1", "rule 0 empty"], (1, 1))
        self.reads(["trial again - 0", "rule empty"], (1, 1))

    def test_changed_logs(self):
        for log in (LOG, (("trial", SIX, "", "on"), *EVENTS[::40]), (("trial", NO_LETTERS, "a", "on"),), (("trial", NOTHING, "", "on"),)):
            rows = log_rows(log)
            for k, row in enumerate(rows):
                front, behind = rows[:k], rows[k + 1:]
                self.reads([*front, *behind])
                self.reads([*front, row, row, *behind])
                self.reads([*behind, *front, row])
                words = row.split(" ")
                for p in range(len(words)):
                    self.reads([*front, " ".join(words[:p] + words[p + 1:]), *behind])
                    self.reads([*front, " ".join(words[:p + 1] + words[p:]), *behind])
                    for word in ("", "-", "a", "b", "0", "1", "01", "left", "fails", "on", "rule", "letter", "A", SIXTY):
                        self.reads([*front, " ".join([*words[:p], word, *words[p + 1:]]), *behind])
                self.reads([*front, row + " ", *behind])
                self.reads([*front, "?", *behind[:-1], "?"])

    def test_only_the_first_line_that_is_not_possible_is_told(self):
        rows = log_rows((("trial", BACK, "bc", "on"), ("answer", True), ("start", "")))
        for i, k in itertools.combinations(range(len(rows)), 2):
            lines = list(rows)
            lines[i] = lines[k] = "?"
            self.stops(i, 0, lines)

    def test_nothing_else_is_checked(self):
        lines = ["trial again zz 2", "letter a x", "rule put q - left", "answer fails", "answer fails", "manner again", "norule 9"]
        lines += ["told k fails", "told k passes"] * 30
        self.same(log_rows(read_log(lines)), lines)
        self.same(read_log(lines)[0], ("trial", ((("a", ("x",)),), (("put", "q", "", "left"),)), "zz", "again"))
        self.same(len(read_log(lines)), 65)
        self.same(read_log(["trial on a 3", "letter a -", "letter b a", "letter c -"])[0], ("trial", (LETTERS, ()), "a", "on"))


if __name__ == "__main__":
    unittest.main()
