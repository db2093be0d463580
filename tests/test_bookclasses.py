"""Points [12], [18], [19], [20], [21]: books as objects."""

import itertools
import unittest

from firstfailing.bookclasses import Book, Eager, Mirrored
from firstfailing.bookreadings import book_read
from firstfailing.errors import InvalidPaper, InvalidText, NotUsable
from tests.support import (
    BACK, BOOK, BOOKS, DIAMOND, LETTERS, LOOSE, NO_LETTERS, NO_NUMBERS, NO_RULES, NO_THINGS, NOTHING, RULES, SIX, Case,
    is_falling_book, names, steps, text_of, things_of,
)
from tests.test_bookchanges import NO_RULES_OF_BOOK
from tests.test_bookreadings import NO_TEXTS

NO_BOOKS = (
    (None, (), "shape", -1), ((), None, "shape", -1), ([], (), "shape", -1), ((), [], "shape", -1), ("", (), "shape", -1),
    (True, 1, "shape", -1), (LETTERS, [("empty",)], "shape", -1), (list(LETTERS), (), "shape", -1),
    ((None,), (), "letter", 0), (LETTERS[::-1], (), "letter", 1), ((("a", ()), ("a", ())), ("x",), "letter", 1),
    ((("a", ["b"]), ("b", ())), (), "letter", 0), ((("a", ("z",)),), ("x",), "lesser", 0),
    ((("a", ()), ("b", ("b",))), (), "lesser", 1), ((("a", ("b",)), ("b", ("a",))), ("x",), "ring", 0),
    (LETTERS, ("x",), "rule", 0), (LETTERS, (("empty",), ("drop", True, "left")), "rule", 1),
    (LETTERS, (("put", "d", "", "left"),), "rule", 0), ((), (("lower", "left"), ("put", "a", "b", "left")), "rule", 1),
)
SWAPPED = {"left": "right", "right": "left"}
NO_KEYS = ("", "d", "ab", "A", None, True, False, 0, 1, -1, (), ("a",), [], ["a"], ("a", ()), LETTERS)


def swapped(rules):
    """The rules with all sides exchanged."""
    return tuple(tuple(SWAPPED.get(part, part) for part in rule) for rule in rules)


class BookCase(Case):
    def shows(self, book, form):
        """The book shows this form, in all its ways."""
        letters, rules = form
        self.same(book.letters, letters)
        self.same(book.rules, rules)
        self.same(book.form, form)
        self.same(len(book), len(rules))
        self.same(str(book), text_of(form))
        self.same(bool(book), rules != ())
        for letter, lessers in letters:
            self.same(book[letter], lessers)
        for x in things_of(names(form), 2):
            self.same(book(x), tuple(steps(form, x)))
            self.same(x in book, True)


class Books(BookCase):
    def test_the_examples(self):
        book = Book(BOOK[0], BOOK[1])
        self.same(
            [
                book("bc"), book["b"], "ca" in book, len(book), Mirrored(BACK[0], BACK[1])("bc"),
                Book.plain("y", "x")("xyx"),
            ],
            [("c", "b", "ac"), ("a",), True, 2, ("c", "b", "ac"), ("yx", "xx", "xy")],
        )
        self.same(
            [
                Eager(LETTERS, (), most=3)("abc"), (book | (("empty",),)).rules[2],
                Eager(LETTERS, ()).source == (LETTERS, ()),
            ],
            [("", "c", "a"), ("empty",), True],
        )

    def test_books(self):
        for form in BOOKS:
            book = Book(form[0], form[1])
            self.assertIs(type(book), Book)
            self.shows(book, form)

    def test_books_need_not_end_nor_fall(self):
        self.assertFalse(is_falling_book(LOOSE))
        self.same(Book(*LOOSE)("ca"), ("cc", "aaa"))

    def test_defaults_and_names(self):
        self.shows(Book(), NOTHING)
        self.shows(Book(LETTERS), NO_RULES)
        self.shows(Book(rules=NO_LETTERS[1]), NO_LETTERS)
        self.shows(Book(rules=BOOK[1], letters=LETTERS), BOOK)
        self.same(Book(LETTERS, BOOK[1])(x="bc"), ("c", "b", "ac"))

    def test_what_is_no_book(self):
        for letters, rules, word, at in NO_BOOKS:
            self.refused(InvalidPaper, {"word": word, "at": at}, Book, letters, rules)
            self.refused(InvalidPaper, {"word": word, "at": at}, Mirrored, letters, rules)
            self.refused(InvalidPaper, {"word": word, "at": at}, Eager, letters, rules)
            self.refused(InvalidPaper, {"word": word, "at": at}, Eager, letters, rules, most=3)
            self.refused(InvalidPaper, {"word": word, "at": at}, Eager, letters, rules, most=-1)

    def test_lessers_of_a_letter(self):
        book = Book(DIAMOND[0], DIAMOND[1])
        self.same([book["p"], book["q"], book["r"], book["z"]], [("q", "r"), ("z",), ("q", "z"), ()])
        for value in NO_KEYS:
            self.unusable("letter", lambda key: Book(*BOOK)[key], value)
            self.unusable("letter", lambda key: Mirrored(*BOOK)[key], value)
            self.unusable("letter", lambda key: Book()[key], value)
        self.unusable("letter", lambda key: Book()[key], "a")

    def test_things_of_a_book(self):
        book = Book(*BOOK)
        for value in (*NO_THINGS, "d", "abd", LETTERS, BOOK, book, [book]):
            self.same(value in book, False, value)
        for value in ("", "a", "abc" * 9):
            self.same(value in book, True, value)
        self.same(["" in Book(), "a" in Book()], [True, False])

    def test_wrong_things(self):
        for book in (Book(*BOOK), Mirrored(*BOOK), Eager(*BOOK)):
            for value in (*NO_THINGS, "d", "abd"):
                self.unusable("x", book, value)
        self.unusable("x", Book(), "a")

    def test_a_book_is_not_iterated_over(self):
        for book in (Book(), Book(*BOOK)):
            with self.assertRaises(TypeError):
                list(book)

    def test_the_listed_methods_are_defined_in_the_classes_themselves(self):
        for name in [
            "letters", "rules", "form", "__getitem__", "__contains__", "__len__", "__eq__", "__str__", "__call__",
            "__or__", "read", "plain", "__init__",
        ]:
            self.assertIn(name, vars(Book))
        for each in (Mirrored, Eager):
            self.assertIn("source", vars(each))
            self.assertIn("__init__", vars(each))
            self.assertEqual(each.__bases__, (Book,))

    def test_nothing_that_is_shown_can_be_set(self):
        for book in (Book(*BOOK), Mirrored(*BOOK), Eager(*BOOK)):
            for name in ("letters", "rules", "form"):
                with self.assertRaises(AttributeError):
                    setattr(book, name, ())
        with self.assertRaises(AttributeError):
            Mirrored(*BOOK).source = ()


class Together(BookCase):
    def test_rules_behind(self):
        for form in (BOOK, NO_RULES, DIAMOND, SIX):
            for rules in [(), (("empty",),), (("drop", 7, "right"), ("half", "left")), form[1]]:
                book = Book(*form)
                self.shows(book | rules, (form[0], form[1] + rules))
                self.shows(book, form)
        self.shows(Book() | NO_LETTERS[1], NO_LETTERS)
        self.shows(Book(*BOOK) | RULES[:5] | RULES[5:], (LETTERS, BOOK[1] + RULES))

    def test_derived_books_give_a_book(self):
        for book in (Book(*BACK), Mirrored(*BACK), Eager(*BACK, most=4)):
            more = book | (("half", "left"),)
            self.assertIs(type(more), Book)
            self.shows(more, (LETTERS, (*book.rules, ("half", "left"))))
            same = book | ()
            self.assertIs(type(same), Book)
            self.assertIsNot(same, book)
            self.assertTrue(same == book)

    def test_in_place(self):
        one = two = Book(*BOOK)
        one |= (("empty",),)
        self.shows(one, (LETTERS, (*BOOK[1], ("empty",))))
        self.shows(two, BOOK)

    def test_wrong_rules(self):
        for book in (Book(*BOOK), Mirrored(*BOOK), Eager(*BOOK)):
            before = book.form
            for value in (None, True, 0, "", "empty", ["x"], [("empty",)], ("empty",), BOOK, LETTERS, book, [], RULES[0]):
                self.unusable("rules", lambda rules: book | rules, value)
            for value in NO_RULES_OF_BOOK:
                if value != RULES:
                    self.unusable("rules", lambda rules: book | rules, (value,))
                    self.unusable("rules", lambda rules: book | rules, (("empty",), value))
            self.same(book.form, before)
        self.unusable("rules", lambda rules: Book() | rules, (("put", "a", "", "left"),))


class Equality(BookCase):
    def test_equal_forms(self):
        forms = [*BOOKS, (LETTERS, BOOK[1][::-1]), (LETTERS, (*BOOK[1], BOOK[1][0]))]
        for one, two in itertools.product(forms, repeat=2):
            self.same([Book(*one) == Book(*two), Book(*one) != Book(*two)], [one == two, one != two])

    def test_classes_do_not_count(self):
        eager = (LETTERS, (("empty",), ("drop", 3, "left"), ("drop", 2, "left"), ("half", "left")))
        books = [
            Book(*eager),
            Eager(LETTERS, (("half", "left"),), most=3),
            Mirrored(LETTERS, (("empty",), ("drop", 3, "right"), ("drop", 2, "right"), ("half", "right"))),
            Eager(LETTERS, (("half", "left"),), most=2) | (),
            Eager(LETTERS, (("drop", 2, "left"), ("half", "left")), most=1),
            Book(LETTERS, (("empty",), ("drop", 3, "left"))) | (("drop", 2, "left"), ("half", "left")),
        ]
        for i, j in itertools.product(range(len(books)), repeat=2):
            alike = books[i].form == books[j].form
            self.same([books[i] == books[j], books[i] != books[j]], [alike, not alike], (i, j))
        self.same([books[0] == books[k] for k in range(6)], [True, True, True, False, False, True])

    def test_equal_forms_made_of_unlike_parts(self):
        one = Eager(LETTERS, (("drop", 2, "left"),), most=0)
        two = Eager(LETTERS, (), most=2)
        three = Eager(LETTERS, (("drop", 2, "left"),), most=1)
        self.same([one == two, two == three, one != two, one != three], [True, True, False, False])
        self.same([one.source == two.source, one.source == three.source], [False, True])

    def test_other_values_are_not_equal(self):
        for book, form in [(Book(*BOOK), BOOK), (Mirrored(*BACK), BACK), (Book(), NOTHING)]:
            for value in (None, True, False, 0, "", str(book), (), [], form, book.form, list(form), book.rules, names(form)):
                self.same([book == value, value == book, book != value], [False, False, True], value)


class Beginnings(BookCase):
    def test_read(self):
        for form in BOOKS:
            book = Book.read(text_of(form))
            self.assertIs(type(book), Book)
            self.shows(book, form)
            self.assertTrue(Book.read(str(book)) == book)
            self.same(str(Book.read(text=text_of(form))), text_of(form))

    def test_derived_books_are_written_as_what_they_are(self):
        self.same(str(Mirrored(LETTERS[:1], (("half", "left"),))), "letter a -\nrule half right")
        self.same(str(Eager((), (("half", "left"),), most=3)), "rule empty\nrule drop 3 left\nrule drop 2 left\nrule half left")
        self.same(str(Eager(LETTERS[:1], ())), "letter a -\nrule empty\nrule drop 2 left")

    def test_wrong_texts(self):
        for value in NO_TEXTS:
            self.unusable("text", Book.read, value)
        for text in ["\n", " ", "letter", "letter a", "letter a -\nrule half", "rule empty\n", "letter b -\nletter a -", "x"]:
            with self.assertRaises(InvalidText) as told:
                book_read(text)
            wanted = {"line": told.exception.line, "field": told.exception.field}
            self.refused(InvalidText, wanted, Book.read, text)
        self.refused(InvalidText, {"line": 1, "field": 2}, Book.read, "letter a -\nrule half")

    def test_texts_of_no_book(self):
        for text, word, at in [
            ("letter a a", "lesser", 0),
            ("letter a -\nletter b c", "lesser", 1),
            ("letter a b\nletter b a\nrule put c - left", "ring", 0),
            ("letter a -\nrule empty\nrule put b - left", "rule", 1),
            ("rule put a bb left", "rule", 0),
        ]:
            self.refused(InvalidPaper, {"word": word, "at": at}, Book.read, text)
        self.refused(InvalidText, {"line": 1, "field": 1}, Book.read, "letter a a\nrule drops")

    def test_plain(self):
        for letters in ["", "a", "ab", "ba", "zxy", "abcdefghijklmnopqrstuvwxyz"[::-1]]:
            book = Book.plain(*letters)
            self.assertIs(type(book), Book)
            form = (tuple((letter, ()) for letter in sorted(letters)), (("drop", 1, "left"),))
            self.same(book.form, form)
        self.shows(Book.plain("y", "x"), ((("x", ()), ("y", ())), (("drop", 1, "left"),)))
        self.shows(Book.plain(), ((), (("drop", 1, "left"),)))

    def test_wrong_plain_letters(self):
        def refuses(k, *letters):
            self.refused(NotUsable, {"word": "letters", "at": k}, Book.plain, *letters)

        for value in (*NO_THINGS, "", "ab", ("a", ()), LETTERS, "a "):
            refuses(0, value)
            refuses(0, value, value)
            refuses(1, "a", value)
            refuses(1, "b", value, "b")
            refuses(2, "b", "a", value, None)
        refuses(1, "a", "a")
        refuses(2, "a", "b", "a", "b")
        refuses(2, "b", "a", "b")
        refuses(3, "z", "y", "x", "y", None)
        refuses(0, None, "a", "a")


class Derived(BookCase):
    def test_mirrored(self):
        for form in BOOKS:
            book = Mirrored(form[0], form[1])
            self.assertIs(type(book), Mirrored)
            self.shows(book, (form[0], swapped(form[1])))
            self.same(book.source, form)
            self.same(Mirrored(rules=form[1], letters=form[0]).source, form)
            again = Mirrored(book.letters, book.rules)
            self.assertTrue(again == Book(*form))
            self.same(again.source, (form[0], swapped(form[1])))

    def test_eager(self):
        for form in (BOOK, NO_RULES, LOOSE, NO_LETTERS, NOTHING, DIAMOND):
            for most in range(100):
                front = [("drop", n, "left") for n in range(99, 1, -1) if n <= most]
                book = Eager(*form, most=most)
                self.same(book.form, (form[0], (("empty",), *front, *form[1])))
                self.same(book.source, form)
                self.same(len(book), len(form[1]) + max(1, most))
            self.assertIs(type(Eager(*form)), Eager)
            self.shows(Eager(*form), (form[0], (("empty",), ("drop", 2, "left"), *form[1])))
            self.shows(Eager(*form, most=0), (form[0], (("empty",), *form[1])))
            self.shows(Eager(*form, most=5), (form[0], (("empty",), *[("drop", n, "left") for n in (5, 4, 3, 2)], *form[1])))

    def test_wrong_most(self):
        for value in (*NO_NUMBERS, 100, 101, 10 ** 59):
            self.unusable("most", Eager, LETTERS, (), most=value)
            self.refused(InvalidPaper, {"word": "rule", "at": 0}, Eager, LETTERS, ("x",), most=value)
        with self.assertRaises(TypeError):
            Eager(LETTERS, (), 3)

    def test_letters_and_rules_are_needed(self):
        for each in (Mirrored, Eager):
            with self.assertRaises(TypeError):
                each()
            with self.assertRaises(TypeError):
                each(LETTERS)

    def test_what_is_handed_in_does_not_change(self):
        given = [["a"], [("empty",)]]
        for each in (Book, Mirrored, Eager):
            self.refused(InvalidPaper, {"word": "shape", "at": -1}, each, given, given)
        book = Book(*BOOK)
        self.unusable("x", book, given)
        self.unusable("rules", lambda rules: book | rules, given)
        self.unusable("letter", lambda key: book[key], given)
        self.refused(NotUsable, {"word": "letters", "at": 0}, Book.plain, given)
        self.same([given in book, book == given], [False, False])
        self.same(given, [["a"], [("empty",)]])


if __name__ == "__main__":
    unittest.main()
