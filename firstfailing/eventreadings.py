"""Events and logs, read from lines."""

from firstfailing.bookreadings import book_of, is_written_count, is_written_thing, rule_from, thing_in
from firstfailing.errors import InvalidText
from firstfailing.stepping import MANNERS

EVENT_PARTS = {
    "answer": ("fails",),
    "told": ("thing", "fails"),
    "norule": ("number",),
    "start": ("thing",),
    "manner": ("manner",),
}
BEGINNING_PARTS = ("manner", "thing", "number")


def read_event(text):
    """The event that a line writes."""
    return event_of(text.split(" "), 0)


def read_log(lines):
    """The log that lines write."""
    if len(lines) == 0:
        raise InvalidText(0, 0)
    words = lines[0].split(" ")
    if words[0] != "trial":
        raise InvalidText(0, 0)
    manner, x, many = parts_of(words, BEGINNING_PARTS, 0)
    end = 1 + many
    book = book_of(lines[1:end], 1)
    if len(lines) < end:
        raise InvalidText(len(lines), 0)
    events = [event_of(row.split(" "), end + k) for k, row in enumerate(lines[end:])]
    return (("trial", book, x, manner), *events)


def event_of(words, line):
    """The event that words write."""
    word = words[0]
    if word == "rule":
        if len(words) < 2 or not is_written("number", words[1]):
            raise InvalidText(line, 1)
        return ("rule", rule_from(words, 2, line), int(words[1]))
    if word not in EVENT_PARTS:
        raise InvalidText(line, 0)
    return (word,) + parts_of(words, EVENT_PARTS[word], line)


def parts_of(words, parts, line):
    """What the words behind the first one write, where they are to be these parts."""
    for k, part in enumerate(parts):
        if len(words) <= k + 1 or not is_written(part, words[k + 1]):
            raise InvalidText(line, k + 1)
    if len(words) > len(parts) + 1:
        raise InvalidText(line, len(parts) + 1)
    return tuple([written_in(part, word) for part, word in zip(parts, words[1:])])


def is_written(part, word):
    """Whether a word writes such a part."""
    if part == "fails":
        return word in ("fails", "passes")
    if part == "number":
        return word == "0" or is_written_count(word)
    if part == "manner":
        return word in MANNERS
    return is_written_thing(word)


def written_in(part, word):
    """The part that a word writes."""
    if part == "fails":
        return word == "fails"
    if part == "number":
        return int(word)
    if part == "manner":
        return word
    return thing_in(word)
