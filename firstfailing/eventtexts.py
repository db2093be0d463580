"""Events and logs, written as lines."""

from firstfailing.booktexts import book_lines, rule_words, thing_word


def event_line(event):
    """The line of an event."""
    if event[0] == "rule":
        _, rule, at = event
        return f"rule {at} {rule_words(rule)}"
    return " ".join([part_word(part) for part in event])


def log_lines(log):
    """The lines of a log, as a list."""
    _, book, x, manner = log[0]
    rows = book_lines(book)
    first = f"trial {manner} {thing_word(x)} {len(rows)}"
    return [first] + rows + [event_line(event) for event in log[1:]]


def part_word(part):
    """How a part of an event stands in its line."""
    if isinstance(part, bool):
        return fails_word(part)
    return thing_word(str(part))


def fails_word(it_fails):
    """The word for whether something fails."""
    return "fails" if it_fails else "passes"
