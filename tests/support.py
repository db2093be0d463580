"""Books, values and slow definitions that the tests share.

The definitions follow the words of the document as directly as they can, and use nothing of the package
but its errors.
"""

import functools
import itertools
import unittest

from firstfailing.errors import NotEnding, NotUsable

LETTERS = (("a", ()), ("b", ("a",)), ("c", ()))
BOOK = (LETTERS, (("drop", 1, "left"), ("lower", "left")))
BACK = (LETTERS, (("drop", 1, "right"), ("lower", "left")))
LOOSE = (LETTERS, (("put", "a", "c", "left"), ("put", "c", "aa", "left")))
DROPS = (LETTERS, (("drop", 1, "left"),))
HALVES = (LETTERS, (("half", "left"), ("drop", 1, "left")))
PUTS = (LETTERS, (("put", "b", "a", "left"), ("put", "a", "", "right"), ("half", "left")))
NOTHING = ((), ())
NO_RULES = (LETTERS, ())
NO_LETTERS = ((), (("drop", 1, "left"), ("half", "right"), ("empty",), ("lower", "left")))
CHAIN_LETTERS = (("a", ()), ("b", ("a",)), ("c", ("a", "b")))
CHAIN = (CHAIN_LETTERS, ())
DIAMOND_LETTERS = (("p", ("q", "r")), ("q", ("z",)), ("r", ("q", "z")), ("z", ()))
DIAMOND = (DIAMOND_LETTERS, (("lower", "right"), ("drop", 2, "left"), ("put", "p", "z", "left")))
GROWING = (LETTERS, (("put", "c", "ab", "left"), ("drop", 1, "right"), ("lower", "right")))
SIX = (
    DIAMOND_LETTERS,
    (
        ("half", "right"),
        ("drop", 4, "left"),
        ("put", "p", "qrz", "right"),
        ("put", "r", "", "left"),
        ("lower", "left"),
        ("empty",),
    ),
)

BOOKS = (BOOK, BACK, LOOSE, DROPS, HALVES, PUTS, NO_RULES, CHAIN, DIAMOND, GROWING, SIX, NOTHING, NO_LETTERS)

# Rules over the letters a, b, c; with LETTERS some fall, some grow, and some pairs of them go round.
RULES = (
    ("drop", 1, "left"),
    ("drop", 1, "right"),
    ("drop", 2, "left"),
    ("drop", 3, "right"),
    ("drop", 4, "left"),
    ("half", "left"),
    ("half", "right"),
    ("empty",),
    ("lower", "left"),
    ("lower", "right"),
    ("put", "b", "a", "left"),
    ("put", "b", "a", "right"),
    ("put", "a", "", "left"),
    ("put", "c", "", "right"),
    ("put", "a", "b", "left"),
    ("put", "c", "ab", "right"),
    ("put", "b", "cc", "left"),
    ("put", "a", "aa", "left"),
    ("put", "c", "a", "left"),
)

# No thing of any book; the last ones are of no kind that a parameter could be meant for.
NO_THINGS = ("A", "a b", "a-", "1", "\n", "a\n", None, True, False, 0, 1, -1, (), ("a",), [], ["a"], (("a",),))
NO_NUMBERS = (-1, True, False, None, "", "0", "1", (), (0,), [], [0])
NO_MANNERS = ("", "On", "again ", "left", None, True, 0, 1, ("again",), ["on"], (), [])
NO_BOOLS = (0, 1, None, "", "True", "False", (), (True,), [], [False])
NO_TESTS = (
    None,
    True,
    1,
    "causes",
    (),
    [],
    ("causes",),
    ("causes", ("a",), ()),
    ["causes", ("a",)],
    ("causes", ["a"]),
    ("causes", "a"),
    ("causes", ("b", "a")),
    ("causes", ("a", "a")),
    ("causes", ("A",)),
    ("causes", (1,)),
    ("cause", ("a",)),
    (["causes"], ("a",)),
    (("causes",), ("a",)),
    (True, ("a",)),
    ("has", ("ab",)),
    ("has", ("",)),
)

WORDS_OF_TESTS = ("causes", "only", "but", "has")


def things_of(letters, most):
    """All things of these letters with at most so many letters, the shortest first."""
    return ["".join(row) for many in range(most + 1) for row in itertools.product(letters, repeat=many)]


def names(book):
    """The letters of a book."""
    return [letter for letter, _ in book[0]]


def below(book, letter):
    """The letters that are reached from one by going to directly lesser ones."""
    found = set()
    for lesser in dict(book[0])[letter]:
        found |= {lesser} | below(book, lesser)
    return found


@functools.lru_cache(None)
def at_most(book, v):
    """All things at most v: each letter is left out, kept or replaced by one below it."""
    choices = [["", letter, *below(book, letter)] for letter in v]
    return {"".join(row) for row in itertools.product(*choices)}


def next_less_of(book, v):
    """The things below v such that no thing that is below v has them below itself."""
    lower = at_most(book, v) - {v}
    return {u for u in lower if not any(u != w and u in at_most(book, w) for w in lower)}


def results(book, rule, x):
    """The results of a rule, in its order."""
    word, side = rule[0], rule[-1]
    if word == "empty":
        return [""]
    found = []
    if word == "half":
        many = len(x) // 2
        return ["".join(x[k] for k in range(len(x)) if (k < many if side == "left" else k >= len(x) - many))]
    spots = [k for k in range(len(x))]
    if side == "right":
        spots.reverse()
    for k in spots:
        if word == "drop" and k + rule[1] <= len(x):
            found.append("".join(x[i] for i in range(len(x)) if i not in range(k, k + rule[1])))
        if word == "lower":
            found += [x[:k] + lesser + x[k + 1:] for lesser in sorted(dict(book[0])[x[k]])]
        if word == "put" and x[k] == rule[1]:
            found.append(x[:k] + rule[2] + x[k + 1:])
    return found


def once(rows, x):
    """Each of the rows once, where it comes first, and without x."""
    return [row for k, row in enumerate(rows) if row != x and row not in rows[:k]]


def steps(book, x):
    """The steps of x in order."""
    return once([step for rule in book[1] for step in results(book, rule, x)], x)


@functools.lru_cache(None)
def steps_on(book, x, first):
    """The steps of x by the rules from one on and then those before, each with its rule."""
    order = [k for k in range(len(book[1])) if k >= first] + [k for k in range(len(book[1])) if k < first]
    rows = [(step, k) for k in order for step in results(book, book[1][k], x)]
    return [row for i, row in enumerate(rows) if row[0] != x and row[0] not in [r[0] for r in rows[:i]]]


def reached(book, x):
    """All things to which steps lead from x, and x."""
    found = {x}
    new = [x]
    while new:
        for step in steps(book, new.pop()):
            if step not in found:
                found.add(step)
                new.append(step)
    return found


def fails(book, test, x):
    """Whether x fails by a test."""
    word, things = test
    if word == "causes":
        return bool(at_most(book, x) & set(things))
    if word == "has":
        return bool(set(x) & set(things))
    return (x in things) == (word == "only")


def led(book, x, answers, manner="again", notes=False):
    """The walk, what was said, and the question, when shrinking from x is answered by these, in order."""
    walk, said, rule = [(x, 0)], [], 0
    while True:
        for step, k in steps_on(book, walk[-1][0], rule if manner == "on" else 0):
            if notes and step in dict(said):
                if not dict(said)[step]:
                    continue
            elif len(said) == len(answers):
                return tuple(walk), tuple(said), step
            else:
                walk[-1] = (walk[-1][0], walk[-1][1] + 1)
                said.append((step, answers[len(said)]))
                if not said[-1][1]:
                    continue
            walk.append((step, 0))
            rule = k
            break
        else:
            return tuple(walk), tuple(said), None


def last(book, test, x):
    """The thing at which shrinking from x with "again" ends by a test."""
    thing = x
    while True:
        failing = [step for step in steps(book, thing) if fails(book, test, step)]
        if not failing:
            return thing
        thing = failing[0]


def shrunk(book, x, answer, manner="again", notes=False, most=10 ** 6, rule=0):
    """The walk of shrinking from x, each try answered by a function; None if there are more than so many tries."""
    rows, said = [[x, 0]], []
    while True:
        for step, k in steps_on(book, rows[-1][0], rule if manner == "on" else 0):
            if notes and step in dict(said):
                it_fails = dict(said)[step]
            elif len(said) == most:
                return None
            else:
                it_fails = answer(step)
                said.append((step, it_fails))
                rows[-1][1] += 1
            if it_fails:
                rows.append([step, 0])
                rule = k
                break
        else:
            return tuple(tuple(row) for row in rows)


def walk(book, test, x, manner="again", notes=False, most=10 ** 6):
    """The walk of shrinking from x by a test; None if there are more than so many tries."""
    return shrunk(book, x, lambda thing: fails(book, test, thing), manner, notes, most)


@functools.lru_cache(None)
def ranking(book, x, manner="again", rule=0):
    """The ranking of a thing to which the result of this rule led."""
    rows = []
    for step, k in steps_on(book, x, rule if manner == "on" else 0):
        rows += ranking(book, step, manner, k)
    return (*once(rows, x), x)


def falls(book, rule):
    """Whether each result of a rule is below what it is made of."""
    return rule[0] != "put" or rule[2] == "" or rule[2] in below(book, rule[1])


def is_falling_book(book):
    """Whether all rules of the book fall."""
    return all(falls(book, rule) for rule in book[1])


def rising_tests(book, x):
    """All rising tests by which x fails, each by the set of its least failing things; for few things."""
    things = sorted(at_most(book, x))
    for many in range(1, len(things) + 1):
        for row in itertools.combinations(things, many):
            if not any(u != v and u in at_most(book, v) for u in row for v in row):
                yield ("causes", row)


def only_tests(book, other, x):
    """The tests "only" with x and any of the other things to which steps of one of the books lead."""
    things = sorted((reached(book, x) | reached(other, x)) - {x})
    for many in range(len(things) + 1):
        for row in itertools.combinations(things, many):
            yield ("only", tuple(sorted((x, *row))))


def gives(book, letter):
    """The words that rules give for a letter."""
    words = []
    for rule in book[1]:
        if rule[0] == "put" and rule[1] == letter:
            words.append(rule[2])
        if rule[0] == "lower":
            words += dict(book[0])[letter]
    return words


def is_ring(book, ring):
    """Whether it is a nonempty set of letters of the book, and rules give one of them for each of them."""
    if type(ring) is not tuple or not ring or list(ring) != sorted(set(ring)):
        return False
    return all(
        letter in names(book) and any(other in word for word in gives(book, letter) for other in ring)
        for letter in ring
    )


def has_ring(book):
    """Whether some set of letters of the book is a ring."""
    every = [row for n in range(len(book[0])) for row in itertools.combinations(names(book), n + 1)]
    return any(is_ring(book, row) for row in every)


def are_weights(book, weights):
    """Whether they are weights of the book."""
    if len(weights) != len(book[0]) or any(type(weight) is not int or weight < 1 for weight in weights):
        return False
    of = dict(zip(names(book), weights))
    return all(
        of[letter] > sum(of[given] for given in word)
        for letter in names(book)
        for word in gives(book, letter)
    )


def entry_line(entry):
    """The line of a letter, as [18] writes it."""
    return " ".join(["letter", entry[0], ",".join(entry[1]) or "-"])


def rule_row(rule):
    """The line of a rule, as [18] writes it."""
    return " ".join(["rule", *[str(part) if part != "" else "-" for part in rule]])


def text_of(book):
    """The lines of a book, as [18] writes it."""
    return "\n".join([entry_line(entry) for entry in book[0]] + [rule_row(rule) for rule in book[1]])


def event_row(event):
    """The line of an event, as [73] writes it."""
    word = event[0]
    if word == "rule":
        return f"rule {event[2]} {rule_row(event[1])[5:]}"
    parts = [{True: "fails", False: "passes"}[part] if type(part) is bool else str(part) for part in event[1:]]
    return " ".join([word, *[part if part != "" else "-" for part in parts]])


def log_rows(log):
    """The lines of a log, as [73] writes it."""
    _, book, x, manner = log[0]
    many = len(book[0]) + len(book[1])
    rows = text_of(book).split("\n") if many > 0 else []
    return [f"trial {manner} {x if x != '' else '-'} {many}", *rows, *[event_row(event) for event in log[1:]]]


def small_books(letters, most=2):
    """The books of these letters with each row of so many of the rules."""
    return [(letters, row) for many in range(most + 1) for row in itertools.product(RULES, repeat=many)]


def shown(value):
    """A value with the kinds of all its parts, so that True is not 1 and a list no tuple."""
    if isinstance(value, (tuple, list)):
        return (type(value).__name__, [shown(part) for part in value])
    return (type(value).__name__, value)


class Case(unittest.TestCase):
    """A test case that compares kinds, too, and knows errors by their fields."""

    def same(self, got, wanted, about=None):
        """Both are equal, and of the same kinds throughout."""
        self.assertEqual(shown(got), shown(wanted), about)

    def refused(self, error, fields, call, *given, **named):
        """The call raises this very error with these fields."""
        with self.assertRaises(error, msg=(call, given, named)) as caught:
            call(*given, **named)
        self.assertIs(type(caught.exception), error)
        for name, value in fields.items():
            self.same(getattr(caught.exception, name), value, (call, given, named))

    def unusable(self, word, call, *given, **named):
        """The call finds the argument of this name not usable."""
        self.refused(NotUsable, {"word": word, "at": -1}, call, *given, **named)

    def not_ending(self, book, call, *given, **named):
        """The call tells a right ring of the book."""
        with self.assertRaises(NotEnding, msg=(call, given, named)) as caught:
            call(*given, **named)
        self.assertIs(type(caught.exception), NotEnding)
        self.assertTrue(is_ring(book, caught.exception.ring), (given, caught.exception.ring))
