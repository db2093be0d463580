"""Entries, rules and books, written as lines."""

from firstfailing.errors import NotUsable
from firstfailing.kinds import is_entry, is_rule


def letter_line(entry):
    """The line of a letter and its lessers."""
    if not is_entry(entry):
        raise NotUsable("entry", -1)
    letter, lessers = entry
    return " ".join(["letter", letter, ",".join(lessers) or "-"])


def rule_line(rule):
    """The line of a rule."""
    if not is_rule(rule):
        raise NotUsable("rule", -1)
    return f"rule {rule_words(rule)}"


def book_text(book):
    """The lines of the letters and of the rules of a book."""
    return "\n".join(book_lines(book))


def book_lines(book):
    """The lines of the letters and of the rules, as a list."""
    letters, rules = book
    return [letter_line(entry) for entry in letters] + [rule_line(rule) for rule in rules]


def rule_words(rule):
    """The words of a rule, behind the first one of its line."""
    return " ".join([thing_word(str(part)) for part in rule])


def thing_word(thing):
    """How a thing stands in a line: a hyphen for the empty one."""
    return thing or "-"
