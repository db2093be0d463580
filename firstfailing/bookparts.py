"""The letters of a book, and the things that are at most others by them."""

from firstfailing.errors import NotUsable
from firstfailing.kinds import is_book, is_number, is_thing, letters_reached


def letters_of(book):
    """The set of the letters of a book."""
    return tuple([entry[0] for entry in book[0]])


def lessers_of(book, letter):
    """The set of the letters that are directly less than a letter."""
    need_letter(book, letter)
    return dict(book[0])[letter]


def letters_below(book, letter):
    """The set of the letters below a letter."""
    need_letter(book, letter)
    return letters_reached(dict(book[0]), letter)


def next_lessers(book, letter):
    """The set of the next lesser letters of a letter."""
    need_letter(book, letter)
    return nearest(dict(book[0]), letter)


def has_letters(book, thing):
    """Whether any value is a thing of the letters of the book."""
    names = letters_of(book)
    return is_thing(thing) and all([letter in names for letter in thing])


def is_at_most(book, u, v):
    """Whether the thing u is at most the thing v."""
    need_thing(book, u, "u")
    need_thing(book, v, "v")
    return comes_from(downs_of(book), u, v)


def things_at_most(book, x):
    """The set of all things that are at most x."""
    need_thing(book, x, "x")
    downs = downs_of(book)
    found = {"": True}
    for letter in x:
        for thing in list(found):
            for lesser in downs[letter]:
                found[thing + lesser] = True
    return tuple(sorted(list(found)))


def next_less(book, x):
    """The set of the next less things of x."""
    need_thing(book, x, "x")
    lessers = dict(book[0])
    found = []
    for k, letter in enumerate(x):
        # A letter that is not least is left out only by way of the letters below it.
        words = nearest(lessers, letter) if lessers[letter] else ("",)
        found.extend([x[:k] + word + x[k + 1:] for word in words])
    return tuple(sorted(set(found)))


def need_letter(book, letter):
    """Refuses what is no letter of the book."""
    if letter not in letters_of(book):
        raise NotUsable("letter", -1)


def need_thing(book, thing, name):
    """Refuses what is no thing of the letters of the book, by the name of its parameter."""
    if not has_letters(book, thing):
        raise NotUsable(name, -1)


def need_at_most(book, thing, x, name):
    """Refuses what is no thing at most x, by the name of its parameter."""
    need_thing(book, thing, name)
    if not comes_from(downs_of(book), thing, x):
        raise NotUsable(name, -1)


def need_other(book, other):
    """Refuses what is no book of which the letters, with their lessers, are equal to those of the book."""
    if not is_book(other) or other[0] != book[0]:
        raise NotUsable("other", -1)


def need_rule(book, k, name):
    """Refuses what is no index of a rule, by the name of its parameter."""
    if not is_number(k) or k >= len(book[1]):
        raise NotUsable(name, -1)


def nearest(lessers, letter):
    """The directly lesser letters that are below no other one of them."""
    direct = lessers[letter]
    hidden = [below for other in direct for below in letters_reached(lessers, other)]
    return tuple([lesser for lesser in direct if lesser not in hidden])


def downs_of(book):
    """For each letter of the book itself and the letters below it."""
    lessers = dict(book[0])
    return {letter: (letter,) + letters_reached(lessers, letter) for letter in lessers}


def comes_from(downs, u, v):
    """Whether u comes from v by leaving out letters and lowering others."""
    # To take for each letter of u the first letter of v that can become it leaves most for the others.
    place = 0
    for letter in v:
        if place < len(u) and u[place] in downs[letter]:
            place = place + 1
    return place == len(u)
