"""All errors of the program: three families, and what each error tells."""


class CentError(ValueError):
    """Every error of this package."""


class PaperError(CentError):
    """A checker does not accept a value."""


class BookError(CentError):
    """A book, or an amount, cannot do what it is asked for."""


class TextError(CentError):
    """A text does not say what it should."""


class InvalidPaper(PaperError):
    """The first error of a value: its word, and the place at which it is."""

    def __init__(self, word, at):
        self.word = word
        self.at = at


class UnknownLine(BookError):
    """A book has no line of this name."""

    def __init__(self, name):
        self.name = name


class InvalidStep(BookError):
    """A step is barred, for this reason."""

    def __init__(self, step, reason):
        self.step = step
        self.reason = reason


class InvalidAmount(BookError):
    """This value is no amount, and no part of one."""

    def __init__(self, value):
        self.value = value


class NothingToUndo(BookError):
    """A log of so many steps has none to undo."""

    def __init__(self, steps):
        self.steps = steps


class InvalidText(TextError):
    """The first invalid row of a text, and its first invalid word."""

    def __init__(self, row, field):
        self.row = row
        self.field = field


class InvalidCommand(TextError):
    """A desk does not know this text."""

    def __init__(self, text):
        self.text = text
