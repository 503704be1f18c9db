"""Live books, which keep all charges and cents up to date, step by step."""

from centbook.barring import bar_of, followed
from centbook.breaking import room
from centbook.errors import InvalidStep, NothingToUndo, UnknownLine
from centbook.findings import found_booking
from centbook.invoices import invoice_text, sent_rows
from centbook.pairs import pair_less, pair_total, rounded_down, rounded_up
from centbook.rowreadings import read_log
from centbook.states import is_open, offs
from centbook.stepping import names_in
from centbook.steprows import log_rows
from centbook.walks import Walks, can_be_walked


def by_names(pairs):
    """The (name, value) of a dict, ascending by name, whatever the values are."""
    return tuple([(name, pairs[name]) for name in sorted(pairs)])


def refuse(barred):
    """Raises the error of a barred step, of which (step, word) is told, if there is one."""
    if barred is not None:
        step, reason = barred
        raise InvalidStep(step, reason)


class Book:
    """A sheet, and the steps that made it, each with the sheet before it."""

    MOST = 6

    def __init__(self, *lines, sections=()):
        self.sheet = ((), (), ())
        self.steps = []
        self.sheets_before = []
        self.started = 0
        self.finished = 0
        self.replay([("add", name) for name in sorted(lines)])
        if sections != ():
            self.replay([("sections", sections)])

    @classmethod
    def empty(cls):
        """A new book."""
        return cls()

    @classmethod
    def read(cls, text):
        """The book after the steps of the rows of a string."""
        log = read_log(text.split("\n") if text else [])
        book = cls()
        book.replay(log)
        return book

    @staticmethod
    def rounded(fraction):
        """The pair of a fraction rounded down and up."""
        return rounded_down(fraction), rounded_up(fraction)

    @property
    def state(self):
        """The state."""
        return self.sheet[0]

    @property
    def sections(self):
        """The sections."""
        return self.sheet[1]

    @sections.setter
    def sections(self, value):
        self.go(("sections", value))

    @property
    def announced(self):
        """The announced days."""
        return self.sheet[2]

    @property
    def owed(self):
        """The exact sum of all lines less all cents."""
        state = self.sheet[0]
        return pair_less(pair_total([line[1] for line in state]), (sum([line[2] for line in state]), 1))

    @property
    def offs(self):
        """The (line, off) of all lines, ascending."""
        state = self.sheet[0]
        return tuple([(name, off) for name, off in zip(names_in(state), offs(state))])

    @property
    def is_open(self):
        """Whether the state is open."""
        return is_open(self.sheet[0])

    @property
    def room(self):
        """The least total of charges that breaks the state, or None if it is open."""
        found = room(self.sheet[0])
        return None if found is None else found[0]

    @property
    def can_go_on(self):
        """Whether the sheet has a close booking."""
        return can_be_walked(self.sheet)

    def __getitem__(self, at):
        for name, exact, cents, goes_on in self.sheet[0]:
            if name == at:
                return exact, cents, goes_on
        raise UnknownLine(at)

    def __iter__(self):
        raise TypeError("a book is not iterated over")

    def __contains__(self, x):
        return x in names_in(self.sheet[0])

    def __len__(self):
        return len(self.sheet[0])

    def __eq__(self, other):
        return isinstance(other, Book) and self.steps == other.steps

    def __ne__(self, other):
        return not self == other

    def __str__(self):
        return " / ".join(log_rows(self.steps) or ["-"])

    def take(self, wanted, keep):
        """Does steps, of any values, all of them or none; with keep at least those ahead of a barred one.

        Returns (step, word) of the barred one, or None.
        """
        sheets, reason = followed(self.sheet, wanted)
        if reason is None or keep:
            for step, sheet in zip(wanted, sheets):
                self.steps.append(step)
                self.sheets_before.append(self.sheet)
                self.sheet = sheet
        return None if reason is None else (wanted[len(sheets)], reason)

    def replay(self, wanted):
        """Does steps without counting them."""
        refuse(self.take(wanted, False))

    def run(self, wanted, keep):
        """Does steps as one operation."""
        self.started += 1
        barred = self.take(wanted, keep)
        self.finished += 1
        refuse(barred)

    def go(self, step):
        """Does a step, any value."""
        self.run([step], False)

    def barred(self, step):
        """The word that bars any value as the next step, or None."""
        return bar_of(self.sheet, step)

    def add_line(self, name):
        """Adds a line."""
        self.go(("add", name))

    def set_sections(self, value):
        """Puts these sections in place of all others."""
        self.go(("sections", value))

    def announce(self, **charges):
        """Announces a day with these charges, and returns the number of announced days."""
        self.go(("announce", by_names(charges)))
        return len(self.sheet[2])

    def withdraw(self):
        """Removes the last announced day."""
        self.go(("withdraw",))

    def end(self, line):
        """Ends a line."""
        self.go(("end", line))

    def correct(self, **changes):
        """Adds to the cents of lines."""
        self.go(("correct", by_names(changes)))

    def send(self, cents=None):
        """Sends the first announced day with these cents, or else any choice, and returns them."""
        sending = self.choice() if cents is None else cents
        self.go(("send", sending))
        return sending

    def choice(self):
        """A choice; to have none is an operation that has raised its error."""
        days = self.sheet[2]
        booking = found_booking(self.sheet)
        if days == () or booking is None:
            self.started += 1
            self.finished += 1
            raise InvalidStep(("send", ()), "none" if days == () else "stuck")
        return booking[0]

    def choices(self):
        """Yields the cents of the first announced day in all close bookings, ascending."""
        if self.sheet[2] == ():
            return
        walks = Walks(self.sheet)
        layers = walks.leading_to(walks.reached()[walks.many])
        for row, after in walks.steps_from(0, walks.first):
            if after in layers[1]:
                yield row

    def do_all(self, *steps, keep=False):
        """Does steps in order, as one operation, and returns how many they are."""
        self.run(steps, keep)
        return len(steps)

    def tried(self, *steps):
        """The pair (is_open, can_go_on) after steps that are not done."""
        sheets, reason = followed(self.sheet, steps)
        if reason is not None:
            raise InvalidStep(steps[len(sheets)], reason)
        last = ([self.sheet] + sheets)[-1]
        return is_open(last[0]), can_be_walked(last)

    def undo(self):
        """Removes the last step with its effect, and returns it."""
        self.started += 1
        removed = None
        if self.steps:
            removed = self.steps.pop()
            self.sheet = self.sheets_before.pop()
        self.finished += 1
        if removed is None:
            raise NothingToUndo(0)
        return removed

    def log(self):
        """The steps that were done, in order."""
        return tuple(self.steps)

    def counts(self):
        """The numbers of started and of finished operations."""
        return self.started, self.finished

    def sendings(self):
        """For each sent day the sheet before it was sent, and the cents."""
        return [(sheet, step[1]) for sheet, step in zip(self.sheets_before, self.steps) if step[0] == "send"]

    def days(self):
        """Yields (day, rows) for each sent day, with the (line, charge, cents) of all lines at that time."""
        for day, (sheet, cents) in enumerate(self.sendings()):
            yield day, sent_rows(sheet, cents)

    def invoice(self, day):
        """The invoice of a sent day."""
        sheet, cents = self.sendings()[day]
        return invoice_text(sent_rows(sheet, cents))
