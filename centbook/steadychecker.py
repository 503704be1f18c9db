"""The checker of steady papers."""

from centbook.bookingchecker import lets_booking
from centbook.errors import InvalidPaper
from centbook.kinds import is_ascending, is_row_of_integers, is_rows_of_numbers
from centbook.sheets import part, state_after
from centbook.states import is_open
from centbook.steadywalks import SteadyWalks


def is_table_by_shape(thing):
    """Whether a value is a tuple of tuples of tuples of integers."""
    if not isinstance(thing, tuple) or not all([isinstance(row, tuple) for row in thing]):
        return False
    return all([is_row_of_integers(cents) for row in thing for cents in row])


def is_steady_by_shape(thing):
    """Whether a value is built like a steady paper."""
    if not isinstance(thing, tuple) or len(thing) != 2:
        return False
    word, rest = thing
    if word == "steady":
        return is_rows_of_numbers(rest)
    return word == "never" and is_table_by_shape(rest)


def check_steady(sheet, booking):
    """Raises the first error of a booking that is to be steady."""
    lets_booking(sheet, booking)
    for d in range(len(booking)):
        first_days = part(sheet, 0, d + 1)
        if not is_open(state_after(first_days, booking[:d + 1])):
            raise InvalidPaper("open", d)


def check_table(sheet, table):
    """Raises the first error of a table that is to show that there is no steady booking."""
    state, _, days = sheet
    if days == () or len(table) != len(days):
        raise InvalidPaper("rows", -1)
    walks = SteadyWalks(sheet)
    before = (walks.first,)
    for d, row in enumerate(table):
        if not is_ascending(row) or not all([len(cents) == len(state) for cents in row]):
            raise InvalidPaper("row", d)
        there = {cents: True for cents in row}
        for cents in before:
            if not all([after in there for _, after in walks.steps_from(d, cents)]):
                raise InvalidPaper("missing", d)
        before = row
    if before != ():
        raise InvalidPaper("end", -1)


def lets_steady(sheet, thing):
    """The word of a steady paper; the first error of any other value is raised."""
    if not is_steady_by_shape(thing):
        raise InvalidPaper("shape", -1)
    word, rest = thing
    if word == "steady":
        check_steady(sheet, rest)
    else:
        check_table(sheet, rest)
    return word
