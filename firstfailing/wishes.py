"""Wishes: which of the failing things is best, and whether it is found."""

from firstfailing.bookparts import has_letters, letters_of, need_thing, things_at_most
from firstfailing.contests import parting_of
from firstfailing.ending import least_weights
from firstfailing.errors import NotUsable
from firstfailing.kinds import is_book, is_count, is_things
from firstfailing.rankings import ranking_of


class Wish:
    """A measure of things, which never changes: the sum of the weights of the letters, then the string."""

    def __init__(self, letters, *weights):
        need_letters(letters)
        if len(weights) != len(letters):
            raise NotUsable("weights", -1)
        for k, weight in enumerate(weights):
            if not is_count(weight):
                raise NotUsable("weights", k)
        self._book = (letters, ())
        self._weights = weights
        self._names = letters_of(self._book)
        self._weight_of = dict(zip(self._names, weights))
        for k, (letter, lessers) in enumerate(letters):
            if any([self._weight_of[letter] <= self._weight_of[lesser] for lesser in lessers]):
                raise NotUsable("weights", k)

    @property
    def letters(self):
        """The letters, each with its directly lesser ones."""
        return self._book[0]

    @property
    def weights(self):
        """The weights of the letters, in their order."""
        return self._weights

    @classmethod
    def plain(cls, letters):
        """The wish with the least weights."""
        need_letters(letters)
        weights = least_weights((letters, (("lower", "left"),)))
        return cls(letters, *weights)

    def key(self, thing):
        """The pair of the sum of the weights and the thing, by which things are compared."""
        need_thing(self._book, thing, "thing")
        return (sum([self._weight_of[letter] for letter in thing]), thing)

    def best(self, things):
        """The thing with the least key."""
        if not is_things(things) or len(things) == 0 or not all([has_letters(self._book, thing) for thing in things]):
            raise NotUsable("things", -1)
        return min([self.key(thing) for thing in things])[1]

    def __getitem__(self, at):
        if at not in self._names:
            raise NotUsable("letter", -1)
        return self._weight_of[at]

    def __contains__(self, x):
        return has_letters(self._book, x)

    def __iter__(self):
        return iter(self._names)

    def __len__(self):
        return len(self._names)

    def __eq__(self, other):
        return isinstance(other, Wish) and self._book == other._book and self._weights == other._weights


def is_best(book, x, wish, *, manner="again"):
    """Whether shrinking from x ends, by all rising tests, in the failing thing at most x with the least key."""
    return worst_causes(book, x, wish, manner=manner) is None


def worst_causes(book, x, wish, *, manner="again"):
    """The least set of one or two causes by which another thing than the best one is found, None if there is none."""
    need_thing(book, x, "x")
    if not isinstance(wish, Wish) or wish.letters != book[0]:
        raise NotUsable("wish", -1)
    ranking = ranking_of(book, x, manner=manner)
    best_first = sorted([wish.key(thing) for thing in things_at_most(book, x)])
    return parting_of(book, x, ranking, [thing for _, thing in best_first])


def need_letters(letters):
    """Refuses what are not the letters of a book."""
    if not is_book((letters, ())):
        raise NotUsable("letters", -1)
