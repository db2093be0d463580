"""What the rules of a book make of a thing."""

from firstfailing.bookparts import letters_below, need_rule, need_thing
from firstfailing.errors import NotFalling, NotUsable

MANNERS = ("again", "on")


def steps_of(book, x):
    """The steps of x, in their order."""
    need_thing(book, x, "x")
    return tuple([step for step, _ in led_steps(book, x, 0)])


def rule_steps(book, k, x):
    """The results of rule k for x, in their order, each once and without x."""
    need_rule(book, k, "k")
    need_thing(book, x, "x")
    found = {}
    for step in results_of(book, book[1][k], x):
        if step != x:
            found[step] = True
    return tuple(list(found))


def is_falling(book):
    """Whether each step of each thing is below this thing."""
    return all([does_fall(book, rule) for rule in book[1]])


def need_manner(manner, name):
    """Refuses what is no manner, by the name of its parameter."""
    if manner not in MANNERS:
        raise NotUsable(name, -1)


def need_notes(notes):
    """Refuses what does not tell whether notes are made."""
    if not isinstance(notes, bool):
        raise NotUsable("notes", -1)


def need_falling(book):
    """Refuses a book that is not falling, by its first rule that does not fall."""
    for r, rule in enumerate(book[1]):
        if not does_fall(book, rule):
            raise NotFalling(r)


def does_fall(book, rule):
    """Whether the results of a rule are below what they are made of."""
    return rule[0] != "put" or rule[2] == "" or rule[2] in letters_below(book, rule[1])


def led_steps(book, x, first):
    """The steps of x by the rules from this one on, then by those before, each with its rule."""
    order = list(range(first, len(book[1]))) + list(range(first))
    rule_of = {}
    for k in order:
        for step in results_of(book, book[1][k], x):
            if step != x and step not in rule_of:
                rule_of[step] = k
    return tuple([(step, k) for step, k in rule_of.items()])


def results_of(book, rule, x):
    """All results of a rule for x, in the order of the rule, also x itself and repetitions."""
    word = rule[0]
    if word == "drop":
        n = rule[1]
        return [x[:k] + x[k + n:] for k in places(len(x) - n + 1, rule[2])]
    if word == "half":
        many = len(x) // 2
        return [x[:many] if rule[1] == "left" else x[len(x) - many:]]
    if word == "empty":
        return [""]
    if word == "lower":
        lessers = dict(book[0])
        return [x[:k] + letter + x[k + 1:] for k in places(len(x), rule[1]) for letter in lessers[x[k]]]
    return [x[:k] + rule[2] + x[k + 1:] for k in places(len(x), rule[3]) if x[k] == rule[1]]


def places(many, side):
    """The numbers below this one, from the side on; none if it is not above 0."""
    rising = list(range(many))
    return rising if side == "left" else rising[::-1]
