"""The checker of close bookings."""

from centbook.errors import InvalidPaper
from centbook.kinds import is_rows_of_numbers
from centbook.sums import bound_broken, sums_of


def booking_fault(sheet, thing):
    """The first error (word, at) of any value that is to be a close booking, or None."""
    if not is_rows_of_numbers(thing):
        return "shape", -1
    state, _, days = sheet
    if len(thing) != len(days):
        return "days", -1
    for d, row in enumerate(thing):
        if len(row) != len(state):
            return "lines", d
    for which in sums_of(sheet):
        word = bound_broken(sheet, thing, which)
        if word is not None:
            return word, which
    return None


def lets_booking(sheet, thing):
    """The number of all cents of a close booking; the first error of any other value is raised."""
    fault = booking_fault(sheet, thing)
    if fault is not None:
        word, at = fault
        raise InvalidPaper(word, at)
    return sum([sum(row) for row in thing])
