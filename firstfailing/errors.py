"""All errors of the package: their base class, the families, and the errors themselves."""


class FailError(ValueError):
    """The base class of all errors of the package."""


class PaperError(FailError):
    """The family of the errors that checkers raise."""


class BookError(FailError):
    """The family of the errors about books and other arguments."""


class TrialError(FailError):
    """The family of the errors about events and what is to be undone."""


class TextError(FailError):
    """The family of the errors about what is read."""


class InvalidPaper(PaperError):
    """A checker refuses a value: the word says why, at says where."""

    def __init__(self, word, at):
        self.word = word
        self.at = at


class NotUsable(BookError):
    """An argument is not as stated: the word is the name of its parameter."""

    def __init__(self, word, at):
        self.word = word
        self.at = at


class NotFalling(BookError):
    """A falling book is wanted, and this rule does not fall."""

    def __init__(self, rule):
        self.rule = rule


class NotEnding(BookError):
    """An ending book is wanted, and these letters go round."""

    def __init__(self, ring):
        self.ring = ring


class InvalidEvent(TrialError):
    """An event is not possible for this reason."""

    def __init__(self, event, reason):
        self.event = event
        self.reason = reason


class NothingToUndo(TrialError):
    """Something is to be taken back behind so many steps that there is nothing."""

    def __init__(self, steps):
        self.steps = steps


class InvalidText(TextError):
    """A line is not possible from this field on."""

    def __init__(self, line, field):
        self.line = line
        self.field = field


class InvalidRow(TextError):
    """A desk does not know this row."""

    def __init__(self, row):
        self.row = row
