"""Points [13], [18], with what [19] says of reading: entries, rules and books, written as lines."""

import itertools
import unittest

from firstfailing.bookreadings import book_read, letter_read, rule_read
from firstfailing.booktexts import book_text, letter_line, rule_line
from firstfailing.errors import InvalidText
from tests.support import BOOKS, LETTERS, RULES, Case, entry_line, rule_row, text_of
from tests.test_bookchecker import NO_ENTRIES, NO_RULES_AT_ALL
from tests.test_bookreadings import ENTRIES, EVERY_RULE, WORDS


class Lines(Case):
    def test_the_examples(self):
        self.same(
            [
                letter_line(("b", ("a",))),
                rule_line(("put", "a", "", "left")),
                book_text((LETTERS[:1], (("empty",),))),
                rule_read("rule drop 12 right"),
            ],
            ["letter b a", "rule put a - left", "letter a -\nrule empty", ("drop", 12, "right")],
        )
        self.refused(InvalidText, {"line": 1, "field": 2}, book_read, "letter a -\nrule half")

    def test_entries_by_hand(self):
        for entry, line in [
            (("a", ()), "letter a -"),
            (("a", ("b",)), "letter a b"),
            (("a", ("a",)), "letter a a"),
            (("m", ("a", "m", "z")), "letter m a,m,z"),
            (("z", tuple("abcdefghijklmnopqrstuvwxy")), "letter z a,b,c,d,e,f,g,h,i,j,k,l,m,n,o,p,q,r,s,t,u,v,w,x,y"),
        ]:
            self.same(letter_line(entry), line)
            self.same(letter_read(line), entry)

    def test_rules_by_hand(self):
        for rule, line in [
            (("empty",), "rule empty"),
            (("half", "left"), "rule half left"),
            (("half", "right"), "rule half right"),
            (("lower", "left"), "rule lower left"),
            (("lower", "right"), "rule lower right"),
            (("drop", 1, "left"), "rule drop 1 left"),
            (("drop", 10, "right"), "rule drop 10 right"),
            (("drop", 10 ** 59, "left"), "rule drop 1" + "0" * 59 + " left"),
            (("drop", 10 ** 60 - 1, "left"), "rule drop " + "9" * 60 + " left"),
            (("put", "a", "", "left"), "rule put a - left"),
            (("put", "a", "b", "right"), "rule put a b right"),
            (("put", "q", "xyzq", "left"), "rule put q xyzq left"),
            (("put", "a", "aa", "left"), "rule put a aa left"),
        ]:
            self.same(rule_line(rule), line)
            self.same(rule_read(line), rule)

    def test_all_that_can_be_written_is_read_again(self):
        for entry in ENTRIES:
            self.same(letter_line(entry), entry_line(entry))
            self.same(letter_read(letter_line(entry)), entry)
        for rule in [*EVERY_RULE, *RULES]:
            self.same(rule_line(rule), rule_row(rule))
            self.same(rule_read(rule_line(rule)), rule)

    def test_all_that_is_read_is_written_again(self):
        many = 0
        for words in itertools.product(["letter", "rule"], *[[word for word in WORDS if word]] * 2):
            text = " ".join(words)
            for read, write in [(letter_read, letter_line), (rule_read, rule_line)]:
                try:
                    value = read(text)
                except InvalidText:
                    continue
                self.same(write(value), text)
                many += 1
        self.assertGreater(many, 20)

    def test_numbers_beyond_sixty_digits_are_written(self):
        self.same(rule_line(("drop", 10 ** 200, "right")), "rule drop 1" + "0" * 200 + " right")

    def test_books(self):
        for book in BOOKS:
            self.same(book_text(book), text_of(book))
            self.same(book_read(book_text(book)), book)
        self.same(book_text(((), ())), "")
        self.same(book_text((LETTERS, ())), "letter a -\nletter b a\nletter c -")
        self.same(book_text(((), (("empty",), ("drop", 3, "right")))), "rule empty\nrule drop 3 right")
        every = tuple((letter, ()) for letter in "abcdefghijklmnopqrstuvwxyz")
        self.same(book_read(book_text((every, RULES * 9))), (every, RULES * 9))

    def test_what_is_read_and_is_no_book_is_written_again(self):
        for text in [
            "letter a a", "letter b x,z\nrule put q - left", "letter a b\nletter b a", "rule put x yz right",
            "letter a -\nrule empty", "rule drop 12345678901234567890 left", "",
        ]:
            self.same(book_text(book_read(text)), text)

    def test_wrong_entries(self):
        for value in NO_ENTRIES:
            self.unusable("entry", letter_line, value)
        self.unusable("entry", letter_line, LETTERS)

    def test_wrong_rules(self):
        for value in NO_RULES_AT_ALL:
            self.unusable("rule", rule_line, value)
        self.unusable("rule", rule_line, RULES)

    def test_arguments_by_name(self):
        self.same(letter_line(entry=("b", ("a",))), "letter b a")
        self.same(rule_line(rule=("empty",)), "rule empty")
        self.same(book_text(book=(LETTERS[:1], ())), "letter a -")
        self.unusable("entry", letter_line, entry=None)
        self.unusable("rule", rule_line, rule=None)

    def test_what_is_handed_in_does_not_change(self):
        given = ["b", ["a"]]
        self.unusable("entry", letter_line, given)
        self.unusable("rule", rule_line, given)
        self.same(given, ["b", ["a"]])


if __name__ == "__main__":
    unittest.main()
