"""Changed books."""

from firstfailing.bookparts import letters_of, need_rule
from firstfailing.errors import NotUsable
from firstfailing.kinds import is_letter, is_letter_set, is_number, is_pair, is_rule_of


def with_rule(book, rule, *, at=None):
    """The book with a rule more, ahead of the one at this index, or behind all."""
    letters, rules = book
    if not is_rule_of(rule, letters_of(book)):
        raise NotUsable("rule", -1)
    place = len(rules) if at is None else at
    if not is_number(place) or place > len(rules):
        raise NotUsable("at", -1)
    return (letters, put_in(rules, rule, place))


def without_rule(book, k):
    """The book without rule k."""
    letters, rules = book
    need_rule(book, k, "k")
    return (letters, taken_out(rules, k))


def moved_rule(book, k, at):
    """The book with rule k at this index."""
    letters, rules = book
    need_rule(book, k, "k")
    need_rule(book, at, "at")
    return (letters, put_in(taken_out(rules, k), rules[k], at))


def mirrored(book):
    """The book with left and right exchanged in all rules."""
    letters, rules = book
    return (letters, tuple([mirrored_rule(rule) for rule in rules]))


def with_letter(book, letter, lessers):
    """The book with a letter more, and these letters directly less than it."""
    letters, rules = book
    names = letters_of(book)
    if not is_letter(letter) or letter in names:
        raise NotUsable("letter", -1)
    if not is_letter_set(lessers) or not all([lesser in names for lesser in lessers]):
        raise NotUsable("lessers", -1)
    return (tuple(sorted(letters + ((letter, lessers),))), rules)


def renamed(book, table):
    """The book with its letters called by a table of old and new names, all at once."""
    letters, rules = book
    names = names_by(letters_of(book), table)
    entries = [(names[letter], renamed_set(lessers, names)) for letter, lessers in letters]
    return (tuple(sorted(entries)), tuple([renamed_rule(rule, names) for rule in rules]))


def put_in(rules, rule, at):
    """The rules with one more that has this index."""
    return rules[:at] + (rule,) + rules[at:]


def taken_out(rules, k):
    """The rules without that of this index."""
    return rules[:k] + rules[k + 1:]


def mirrored_rule(rule):
    """The rule with its side, if it has one, exchanged."""
    if rule[0] == "empty":
        return rule
    side = "right" if rule[-1] == "left" else "left"
    return rule[:-1] + (side,)


def names_by(letters, table):
    """How each of the letters is called by a table; refuses a table that is not possible for them."""
    if not isinstance(table, tuple) or not all([is_naming(pair) for pair in table]):
        raise NotUsable("table", -1)
    names = dict(table)
    if len(names) < len(table) or not all([old in letters for old in names]):
        raise NotUsable("table", -1)
    called = {letter: names.get(letter, letter) for letter in letters}
    if len(set(list(called.values()))) < len(letters):
        raise NotUsable("table", -1)
    return called


def is_naming(thing):
    """Whether it is a pair of letters."""
    return is_pair(thing) and is_letter(thing[0]) and is_letter(thing[1])


def renamed_set(letters, names):
    """The set of letters, called by these names."""
    return tuple(sorted([names[letter] for letter in letters]))


def renamed_rule(rule, names):
    """The rule with its letters called by these names."""
    if rule[0] != "put":
        return rule
    word = "".join([names[letter] for letter in rule[2]])
    return ("put", names[rule[1]], word, rule[3])
