"""Books as objects."""

from firstfailing.bookchanges import mirrored
from firstfailing.bookchecker import lets_book
from firstfailing.bookparts import has_letters, lessers_of, letters_of
from firstfailing.bookreadings import book_read
from firstfailing.booktexts import book_text
from firstfailing.errors import NotUsable
from firstfailing.kinds import is_letter, is_number, is_rule_of
from firstfailing.stepping import steps_of

MOST_DROPPED = 99


class Book:
    """A book that never changes."""

    def __init__(self, letters=(), rules=()):
        lets_book((letters, rules))
        self._form = (letters, rules)
        self._rules = rules

    @property
    def letters(self):
        """The letters, each with its directly lesser ones."""
        return self._form[0]

    @property
    def rules(self):
        """The rules."""
        return self._rules

    @property
    def form(self):
        """The pair of the letters and the rules."""
        return self._form

    @classmethod
    def read(cls, text):
        """The book that lines write."""
        letters, rules = book_read(text)
        return cls(letters, rules)

    @staticmethod
    def plain(*letters):
        """The book of these letters, none less than another, that leaves out one letter."""
        for k, letter in enumerate(letters):
            if not is_letter(letter) or letter in letters[:k]:
                raise NotUsable("letters", k)
        return Book(tuple([(letter, ()) for letter in sorted(letters)]), (("drop", 1, "left"),))

    def __call__(self, x):
        return steps_of(self._form, x)

    def __getitem__(self, at):
        return lessers_of(self._form, at)

    def __contains__(self, x):
        return has_letters(self._form, x)

    def __iter__(self):
        raise TypeError("a book is not iterated over")

    def __len__(self):
        return len(self._rules)

    def __or__(self, other):
        letters, rules = self._form
        if not isinstance(other, tuple) or not all([is_rule_of(rule, letters_of(self._form)) for rule in other]):
            raise NotUsable("rules", -1)
        return Book(letters, rules + other)

    def __eq__(self, other):
        return isinstance(other, Book) and self._form == other._form

    def __str__(self):
        return str(book_text(self._form))


class Mirrored(Book):
    """A book with left and right exchanged in all rules."""

    def __init__(self, letters, rules):
        lets_book((letters, rules))
        super().__init__(letters, mirrored((letters, rules))[1])
        self._source = (letters, rules)

    @property
    def source(self):
        """The pair of letters and rules that it was made of."""
        return self._source


class Eager(Book):
    """A book that first tries to leave out much."""

    def __init__(self, letters, rules, *, most=2):
        lets_book((letters, rules))
        if not is_number(most) or most > MOST_DROPPED:
            raise NotUsable("most", -1)
        drops = [("drop", n, "left") for n in range(most, 1, -1)]
        super().__init__(letters, (("empty",), *drops, *rules))
        self._source = (letters, rules)

    @property
    def source(self):
        """The pair of letters and rules that it was made of."""
        return self._source
