"""Entries, rules and books, read from lines."""

from firstfailing.errors import InvalidText, NotUsable
from firstfailing.kinds import is_letter, is_letter_set, is_number, is_side, is_thing

PARTS = {
    "drop": ("number", "side"),
    "half": ("side",),
    "empty": (),
    "lower": ("side",),
    "put": ("letter", "word", "side"),
}
MOST_DIGITS = 60


def letter_read(text, *, line=0):
    """The pair of a letter and its lessers that a line writes."""
    need_line(text, line)
    return entry_of(text.split(" "), line, "")


def rule_read(text, *, line=0):
    """The rule that a line writes."""
    need_line(text, line)
    return rule_of(text.split(" "), line)


def book_read(text):
    """The pair of letters and rules that lines write."""
    need_line(text, 0)
    return book_of(text.split("\n") if text != "" else [], 0)


def book_of(rows, line):
    """The pair of letters and rules that rows write, of which the first one has this index."""
    letters = []
    rules = []
    for k, row in enumerate(rows):
        words = row.split(" ")
        if words[0] == "letter" and rules == []:
            letters.append(entry_of(words, line + k, letters[-1][0] if letters else ""))
        else:
            rules.append(rule_of(words, line + k))
    return (tuple(letters), tuple(rules))


def need_line(text, line):
    """Refuses what is no string, and what is no number of a line."""
    if not isinstance(text, str):
        raise NotUsable("text", -1)
    if not is_number(line):
        raise NotUsable("line", -1)


def entry_of(words, line, before):
    """The entry that words write; its letter is greater than the one before."""
    if words[0] != "letter":
        raise InvalidText(line, 0)
    if len(words) < 2 or not is_letter(words[1]) or words[1] <= before:
        raise InvalidText(line, 1)
    if len(words) < 3 or not is_letter_set(lessers_in(words[2])):
        raise InvalidText(line, 2)
    if len(words) > 3:
        raise InvalidText(line, 3)
    return (words[1], lessers_in(words[2]))


def lessers_in(word):
    """What stands between the commas of a word, nothing for a hyphen."""
    return () if word == "-" else tuple(word.split(","))


def rule_of(words, line):
    """The rule that words write."""
    if words[0] != "rule":
        raise InvalidText(line, 0)
    return rule_from(words, 1, line)


def rule_from(words, first, line):
    """The rule that the words from the one with this index on write."""
    if len(words) <= first or words[first] not in PARTS:
        raise InvalidText(line, first)
    parts = PARTS[words[first]]
    end = first + 1 + len(parts)
    for k in range(first + 1, end):
        if len(words) <= k or not can_stand(parts[k - first - 1], words[k], words[k - 1]):
            raise InvalidText(line, k)
    if len(words) > end:
        raise InvalidText(line, end)
    return (words[first],) + tuple([part_in(part, word) for part, word in zip(parts, words[first + 1:])])


def can_stand(part, word, before):
    """Whether a word can stand as this part of a rule, behind the word before."""
    if part == "number":
        return is_written_count(word)
    if part == "side":
        return is_side(word)
    if part == "letter":
        return is_letter(word)
    # A put rule does not put the letter itself.
    return is_written_thing(word) and word != before


def part_in(part, word):
    """The part of a rule that a word writes."""
    if part == "number":
        return int(word)
    return thing_in(word)


def is_written_thing(word):
    """Whether a word writes a thing: a hyphen, and no empty word, writes the empty one."""
    return word == "-" or (is_thing(word) and word != "")


def thing_in(word):
    """The thing that a word writes."""
    return "" if word == "-" else word


def is_written_count(word):
    """Whether a word writes a number from 1 on, in decimal and without a leading zero."""
    if word == "" or len(word) > MOST_DIGITS or word[0] == "0":
        return False
    return all(["0" <= digit <= "9" for digit in word])
