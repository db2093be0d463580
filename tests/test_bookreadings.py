"""Point [19], with what [18] says of how lines are written: entries, rules and books read from lines."""

import itertools
import unittest

from firstfailing.bookreadings import book_read, letter_read, rule_read
from firstfailing.errors import InvalidText
from firstfailing.kinds import is_letters, is_rules
from tests.support import BOOKS, LETTERS, RULES, Case, entry_line, rule_row, text_of

SIXTY = "9" * 60
NO_TEXTS = (None, True, 0, 1, (), [], ("letter a -",), ["rule empty"], LETTERS)
NO_LINES = (-1, True, False, None, "", "0", "1", (), (0,), [], [1])
WORDS = (
    "letter", "rule", "drop", "half", "empty", "lower", "put", "left", "right", "a", "b", "c", "ab", "ba", "aa", "-",
    "--", "a,b", "b,a", "a,a", "a,b,c", "a,", ",a", ",", "a,-", "a,bc", "0", "1", "2", "12", "01", "00", "-1", "+1",
    "1.", "1_0", "1,2", SIXTY, "1" * 60, "1" * 61, "0" + SIXTY, "", "A", "Left", "Drop", "LEFT", "lefts", "a\n", "\na",
    "\n", "-\n", "left\n", "1\n", "rule\n", "drop\n", "letter\n", "a\nb", "x", "xyz",
)


# All entries and rules of which each word is one of WORDS, and some more entries.
SMALL = [word for word in WORDS if word and all(sign in "abcdefghijklmnopqrstuvwxyz" for sign in word)]
NAMES = [word for word in SMALL if len(word) == 1]
ENTRIES = [(letter, row) for letter in NAMES for many in range(5) for row in itertools.combinations(NAMES, many)]
EVERY_RULE = [
    *[("drop", n, side) for n in (1, 2, 12, int(SIXTY), int("1" * 60)) for side in ("left", "right")],
    *[(word, side) for word in ("half", "lower") for side in ("left", "right")],
    ("empty",),
    *[
        ("put", letter, word, side)
        for letter in NAMES
        for word in ("", *SMALL)
        if word != letter
        for side in ("left", "right")
    ],
]


class Lines(Case):
    def stops(self, call, text, told, field, **named):
        """The call finds this field of the line that it tells not possible."""
        self.refused(InvalidText, {"line": told, "field": field}, call, text, **named)

    def test_the_examples(self):
        self.same(rule_read("rule drop 12 right"), ("drop", 12, "right"))
        self.same(letter_read("letter b a"), ("b", ("a",)))
        self.same(rule_read("rule put a - left"), ("put", "a", "", "left"))
        self.same(book_read("letter a -\nrule empty"), (LETTERS[:1], (("empty",),)))
        self.stops(book_read, "letter a -\nrule half", 1, 2)

    def test_written_values_are_read(self):
        for entry in ENTRIES:
            self.same(letter_read(entry_line(entry)), entry)
        for rule in [*EVERY_RULE, *RULES]:
            self.same(rule_read(rule_row(rule)), rule)

    def test_lines_word_by_word(self):
        """A word can stand just where a written line begins with it and the words before it."""
        for call, lines in [
            (letter_read, [entry_line(entry) for entry in ENTRIES]),
            (rule_read, [rule_row(rule) for rule in EVERY_RULE]),
        ]:
            whole = {tuple(line.split(" ")) for line in lines}
            starts = {row[:k] for row in whole for k in range(len(row) + 1)}
            for start in sorted(starts):
                if start and start not in whole:
                    self.stops(call, " ".join(start), 0, len(start))
                for word in WORDS:
                    row = (*start, word)
                    if row in starts:
                        continue
                    for tail in [(), ("left",), ("",), ("-", "left"), ("a", "b", "left")]:
                        self.stops(call, " ".join((*row, *tail)), 0, len(start))

    def test_wrong_lines_by_hand(self):
        for text, field in [
            ("", 0), (" ", 0), ("letters a -", 0), ("Letter a -", 0), (" letter a -", 0), ("rule empty", 0),
            ("letter", 1), ("letter ", 1), ("letter  a -", 1), ("letter ab -", 1), ("letter - -", 1), ("letter A -", 1),
            ("letter a", 2), ("letter a ", 2), ("letter a  -", 2), ("letter a b,a", 2), ("letter a b,b", 2),
            ("letter a ab", 2), ("letter a b,", 2), ("letter a ,b", 2), ("letter a -,b", 2), ("letter a -\n", 2),
            ("letter a b\n", 2), ("letter a - ", 3), ("letter a - -", 3), ("letter a b c", 3), ("letter\n a -", 0),
        ]:
            self.stops(letter_read, text, 0, field)
        for text, field in [
            ("", 0), ("rules empty", 0), ("letter a -", 0), ("drop 1 left", 0), ("rule", 1), ("rule ", 1),
            ("rule swap", 1), ("rule  empty", 1), ("rule Empty", 1), ("rule empty\n", 1), ("rule empty ", 2),
            ("rule empty left", 2), ("rule half", 2), ("rule half 1", 2), ("rule half left left", 3),
            ("rule half left ", 3), ("rule lower", 2), ("rule lower up", 2), ("rule lower left\n", 2),
            ("rule lower right -", 3), ("rule drop", 2), ("rule drop 0 left", 2), ("rule drop 01 left", 2),
            ("rule drop 00 left", 2), ("rule drop -1 left", 2), ("rule drop +1 left", 2), ("rule drop a left", 2),
            ("rule drop left", 2), ("rule drop " + "1" * 61 + " left", 2), ("rule drop  1 left", 2), ("rule drop 1", 3),
            ("rule drop 1 ", 3), ("rule drop 1 middle", 3), ("rule drop 1 left 1", 4), ("rule put", 2), ("rule put a", 3),
            ("rule put ab - left", 2), ("rule put - - left", 2), ("rule put a a left", 3), ("rule put a A left", 3),
            ("rule put a  left", 3), ("rule put a b", 4), ("rule put a b up", 4), ("rule put a b left x", 5),
            ("rule put a - left ", 5), ("rule put a b,c left", 3), ("rule put a -- left", 3),
        ]:
            self.stops(rule_read, text, 0, field)

    def test_numbers_of_sixty_digits_and_no_more(self):
        self.same(rule_read("rule drop " + SIXTY + " left"), ("drop", int(SIXTY), "left"))
        self.same(rule_read("rule drop 1" + "0" * 59 + " left"), ("drop", 10 ** 59, "left"))
        self.stops(rule_read, "rule drop 1" + "0" * 60 + " left", 0, 2)
        self.stops(rule_read, "rule drop 0" + "1" * 59 + " left", 0, 2)

    def test_letters_are_any_ones(self):
        self.same(letter_read("letter a a"), ("a", ("a",)))
        self.same(letter_read("letter q x,y,z"), ("q", ("x", "y", "z")))
        self.same(rule_read("rule put z zz right"), ("put", "z", "zz", "right"))

    def test_each_line_with_a_word_changed_empty_or_missing(self):
        for line, call in [
            ("letter b a", letter_read), ("rule drop 3 left", rule_read), ("rule half right", rule_read),
            ("rule empty", rule_read), ("rule lower left", rule_read), ("rule put a bc right", rule_read),
        ]:
            words = line.split(" ")
            for k, word in enumerate(words):
                self.stops(call, " ".join(words[:k] + ["?"] + words[k + 1:]), 0, k)
                self.stops(call, " ".join(words[:k] + [""] + words[k + 1:]), 0, k)
                self.stops(call, " ".join(words[:k] + [word + "\n"] + words[k + 1:]), 0, k)
            for k in range(1, len(words)):
                self.stops(call, " ".join(words[:k]), 0, k)

    def test_each_line_with_a_word_doubled_or_left_out(self):
        for text, field in [
            ("letter letter b a", 1), ("letter b b a", 3), ("letter b a a", 3), ("b a", 0), ("letter a", 2),
            ("letter b", 2),
        ]:
            self.stops(letter_read, text, 0, field)
        for text, field in [
            ("rule rule empty", 1), ("rule empty empty", 2), ("empty", 0), ("rule", 1), ("rule rule half left", 1),
            ("rule half half left", 2), ("rule half left left", 3), ("half left", 0), ("rule left", 1),
            ("rule half", 2), ("rule rule lower left", 1), ("rule lower lower left", 2), ("rule lower left left", 3),
            ("rule lower", 2), ("rule drop drop 3 left", 2), ("rule drop 3 3 left", 3), ("rule drop 3 left left", 4),
            ("rule 3 left", 1), ("rule drop left", 2), ("rule drop 3", 3), ("rule put put a b left", 2),
            ("rule put a a b left", 3), ("rule put a b b left", 4), ("rule put a b left left", 5),
            ("rule a b left", 1), ("rule put b left", 4), ("rule put a left", 4), ("rule put a b", 4),
        ]:
            self.stops(rule_read, text, 0, field)

    def test_the_line_is_the_argument(self):
        for line in (0, 1, 7, 10 ** 59):
            self.stops(letter_read, "letter", line, 1, line=line)
            self.stops(rule_read, "rule drop 0", line, 2, line=line)
            self.same(letter_read("letter a -", line=line), ("a", ()))
            self.same(rule_read("rule empty", line=line), ("empty",))

    def test_arguments_by_name(self):
        self.same(letter_read(line=3, text="letter a -"), ("a", ()))
        self.same(rule_read(line=3, text="rule empty"), ("empty",))
        self.same(book_read(text=""), ((), ()))
        for call in (letter_read, rule_read):
            with self.assertRaises(TypeError):
                call("rule empty", 0)

    def test_wrong_arguments(self):
        for value in NO_TEXTS:
            for call in (letter_read, rule_read, book_read):
                self.unusable("text", call, value)
            for call in (letter_read, rule_read):
                self.unusable("text", call, value, line=1)
                self.unusable("text", call, value, line=-1)
        for value in NO_LINES:
            for call, text in itertools.product((letter_read, rule_read), ("letter a -", "rule empty", "", "x")):
                self.unusable("line", call, text, line=value)

    def test_what_is_handed_in_does_not_change(self):
        given = ["letter a -"]
        self.unusable("text", letter_read, given)
        self.unusable("line", rule_read, "rule empty", line=given)
        self.unusable("text", book_read, given)
        self.same(given, ["letter a -"])


class BookLines(Case):
    def stops(self, text, line, field):
        self.refused(InvalidText, {"line": line, "field": field}, book_read, text)

    def test_written_books_are_read(self):
        for book in [*BOOKS, (LETTERS, RULES), ((), RULES)]:
            self.same(book_read(text_of(book)), book)

    def test_what_is_read_may_be_no_book(self):
        for text, wanted in [
            ("letter a a", ((("a", ("a",)),), ())),
            ("letter b x,z\nrule put q - left", ((("b", ("x", "z")),), (("put", "q", "", "left"),))),
            ("letter a b\nletter b a", ((("a", ("b",)), ("b", ("a",))), ())),
            ("rule drop 5 left\nrule put x yz right", ((), (("drop", 5, "left"), ("put", "x", "yz", "right")))),
        ]:
            self.same(book_read(text), wanted)
            self.assertTrue(is_letters(book_read(text)[0]) and is_rules(book_read(text)[1]))

    def test_no_lines_and_empty_lines(self):
        self.same(book_read(""), ((), ()))
        self.stops("\n", 0, 0)
        self.stops("letter a -\n", 1, 0)
        self.stops("\nletter a -", 0, 0)
        self.stops("letter a -\n\nrule empty", 1, 0)
        self.stops("rule empty\n", 1, 0)
        self.stops("rule empty\n\n", 1, 0)
        self.stops(" ", 0, 0)

    def test_letters_ascend(self):
        self.stops("letter b -\nletter a -", 1, 1)
        self.stops("letter a -\nletter a -", 1, 1)
        self.stops("letter a -\nletter c a\nletter b -", 2, 1)
        self.stops("letter b -\nletter a", 1, 1)
        self.stops("letter b -\nletter a b,a", 1, 1)
        self.stops("letter b -\nletter c b,a", 1, 2)
        self.stops("letter b -\nletter", 1, 1)
        self.stops("letter a -\nletter c -\nletter b - -", 2, 1)

    def test_letters_come_ahead_of_rules(self):
        self.stops("rule empty\nletter a -", 1, 0)
        self.stops("letter a -\nrule empty\nletter b -", 2, 0)
        self.stops("letter a -\nrule empty\nletter", 2, 0)
        self.stops("letter a -\nrules empty", 1, 0)
        self.stops("rule half left\n letter a -", 1, 0)

    def test_the_first_line_that_is_not_possible_is_told(self):
        lines = ["letter a -", "letter b a", "rule drop 2 left", "rule put a bc right", "rule empty"]
        for k, line in enumerate(lines):
            words = line.split(" ")
            for field in range(len(words)):
                row = " ".join(words[:field] + ["?"] + words[field + 1:])
                self.stops("\n".join(lines[:k] + [row] + lines[k + 1:]), k, field)
                self.stops("\n".join(lines[:k] + [row] + ["?"] * 3), k, field)
                gone = " ".join(words[:field])
                self.stops("\n".join(lines[:k] + [gone] + lines[k + 1:]), k, field)
            self.stops("\n".join(lines[:k] + [line + " "] + lines[k + 1:]), k, len(words))
            self.stops("\n".join(lines[:k] + [line + " x"] + lines[k + 1:]), k, len(words))

    def test_other_line_ends_belong_to_no_word(self):
        self.stops("letter a - letter b -", 0, 3)
        self.stops("rule empty rule empty", 0, 2)


if __name__ == "__main__":
    unittest.main()
