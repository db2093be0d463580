"""A desk at which a trial is led by rows of words."""

from firstfailing.bookreadings import is_written_thing, thing_in
from firstfailing.booktexts import book_lines, thing_word
from firstfailing.errors import InvalidRow, InvalidText
from firstfailing.eventreadings import read_event, read_log
from firstfailing.eventtexts import event_line, fails_word
from firstfailing.trials import Trial


class Desk:
    """A desk that has a trial, at first none."""

    def __init__(self):
        self._trial = None
        self._calls = 0

    def say(self, row):
        """The answer to a row."""
        self._calls = self._calls + 1
        beginning = beginning_in(row)
        if beginning is not None:
            _, book, x, manner = beginning
            self._trial = Trial(book, x, manner=manner)
            return "ok"
        if self._trial is None:
            raise InvalidRow(row)
        return said_by(self._trial, row)

    def tally(self):
        """The numbers of started and of finished calls of say."""
        # No call is asked for the tally while it goes on, so both are always equal.
        return (self._calls, self._calls)


def beginning_in(row):
    """The first element of a log of which a row has the lines, and nothing else; None if it has not."""
    lines = row.split("\n")
    try:
        log = read_log(lines)
    except InvalidText:
        return None
    return log[0] if len(log) == 1 else None


def event_in(line):
    """The event that a line writes, None if it writes none."""
    try:
        return read_event(line)
    except InvalidText:
        return None


def said_by(trial, row):
    """What a trial answers to a row."""
    if row in ROWS:
        answer = ROWS[row]
        return answer(trial)
    word, _, rest = row.partition(" ")
    if word == "known" and is_written_thing(rest):
        known = trial[thing_in(rest)]
        return "-" if known is None else fails_word(known)
    event = event_in(rest if word == "bars" else row)
    if event is None:
        raise InvalidRow(row)
    if word == "bars":
        return trial.barred(event) or "-"
    return question_word(trial.go(event))


def question_word(question):
    """How a question is told: a dot for none."""
    return "." if question is None else thing_word(question)


def things_row(things):
    """How things are told: a dot for none."""
    return " ".join([thing_word(thing) for thing in things]) or "."


def lines_row(lines):
    """How lines are told: a hyphen for none."""
    return " / ".join(lines) or "-"


def said_undo(trial):
    """The line of the event that is taken back."""
    return event_line(trial.undo())


def said_events(trial):
    """How many events there are."""
    return str(len(trial))


def said_log(trial):
    """The lines of the events."""
    return str(trial)


def said_manner(trial):
    """The manner."""
    return trial.manner_now


def said_tries(trial):
    """How many events are answers."""
    return str(trial.tries_now)


def said_question(trial):
    """The question."""
    return question_word(trial.question)


def said_present(trial):
    """The present thing."""
    return thing_word(trial.thing_now)


def said_steps(trial):
    """The steps of the present thing."""
    return things_row(trial.steps_now)


def said_walk(trial):
    """The things that were the present one."""
    return things_row(trial.walk_now)


def said_failing(trial):
    """The least things that were told to fail."""
    return things_row(trial.failing)


def said_passing(trial):
    """The greatest things that were told to pass."""
    return things_row(trial.passing)


def said_ends(trial):
    """The things in which the trial can still end."""
    return things_row(trial.ends_left())


def said_table(trial):
    """The strings of the table."""
    return lines_row(trial.table())


def said_book(trial):
    """The lines of the book."""
    return lines_row(book_lines(trial.book_now))


ROWS = {
    "undo": said_undo,
    "events": said_events,
    "log": said_log,
    "manner": said_manner,
    "tries": said_tries,
    "question": said_question,
    "present": said_present,
    "steps": said_steps,
    "walk": said_walk,
    "failing": said_failing,
    "passing": said_passing,
    "ends": said_ends,
    "table": said_table,
    "book": said_book,
}
