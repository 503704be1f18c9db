"""A desk, at which a book is kept by strings."""

from centbook.books import Book
from centbook.errors import CentError, InvalidCommand
from centbook.rowreadings import step_in
from centbook.sheetreadings import VALID, integer_in
from centbook.sheettexts import fraction_text, integer_text
from centbook.steprows import NOTHING, step_row


def listed(words):
    """Words as an answer."""
    return ",".join(words) or NOTHING


def yes_or_no(holds):
    """Whether something holds, as an answer."""
    return "yes" if holds else "no"


def send_answer(book):
    """Sends any choice."""
    return listed([integer_text(cents) for cents in book.send()])


def goes_answer(book):
    """Whether the book can go on."""
    return yes_or_no(book.can_go_on)


def open_answer(book):
    """Whether the state is open."""
    return yes_or_no(book.is_open)


def room_answer(book):
    """The room."""
    total = book.room
    return NOTHING if total is None else fraction_text(total)


def owed_answer(book):
    """What is owed."""
    return fraction_text(book.owed)


def offs_answer(book):
    """The off of each line."""
    return listed([f"{name}:{fraction_text(off)}" for name, off in book.offs])


def lines_answer(book):
    """The names of the lines."""
    return listed([line[0] for line in book.state])


def days_answer(book):
    """How many days are sent, and how many are announced."""
    return f"{len(book.sendings())} {len(book.announced)}"


def undo_answer(book):
    """Undoes the last step."""
    return step_row(book.undo())


def count_answer(book):
    """How many steps there are."""
    return str(len(book.log()))


def log_answer(book):
    """The rows of all steps."""
    return str(book)


ANSWERS = {
    "send": send_answer, "goes": goes_answer, "open": open_answer, "room": room_answer, "owed": owed_answer,
    "offs": offs_answer, "lines": lines_answer, "days": days_answer, "undo": undo_answer, "count": count_answer,
    "log": log_answer,
}


def steps_in(rows):
    """The steps that rows write, or None if one of them writes none."""
    steps = []
    for row in rows:
        step, field = step_in(row)
        if field != VALID:
            return None
        steps.append(step)
    return steps


class Desk:
    """Answers strings, by a book."""

    def __init__(self):
        self.book = Book()
        self.started = 0
        self.finished = 0

    def say(self, text):
        """The answer to any string."""
        self.started += 1
        try:
            answer = self.answer(text)
        except CentError:
            self.finished += 1
            raise
        self.finished += 1
        return answer

    def counts(self):
        """The numbers of started and of finished strings."""
        return self.started, self.finished

    def answer(self, text):
        """The answer to a string that is not counted."""
        if text == "new":
            self.book = Book()
            return "ok"
        if text in ANSWERS:
            action = ANSWERS[text]
            return action(self.book)
        word, _, rest = text.partition(" ")
        if word == "invoice":
            return self.invoice_answer(text, integer_in(rest))
        if word == "bars":
            return self.bars_answer(text, steps_in([rest]))
        if word == "try":
            return self.try_answer(text, steps_in(rest.split(" / ")))
        return self.step_answer(text, steps_in([text]))

    def invoice_answer(self, text, day):
        """The invoice of a day."""
        if day is None or not 0 <= day < len(self.book.sendings()):
            raise InvalidCommand(text)
        return self.book.invoice(day)

    def bars_answer(self, text, steps):
        """What bars the one step."""
        if steps is None:
            raise InvalidCommand(text)
        return self.book.barred(steps[0]) or NOTHING

    def try_answer(self, text, steps):
        """Whether the book can go on after steps."""
        if steps is None:
            raise InvalidCommand(text)
        _, goes = self.book.tried(*steps)
        return yes_or_no(goes)

    def step_answer(self, text, steps):
        """Does the one step."""
        if steps is None:
            raise InvalidCommand(text)
        self.book.go(steps[0])
        return "ok"
