"""The checker of close bookings."""

from centbook.errors import InvalidPaper
from centbook.kinds import is_rows_of_numbers
from centbook.sums import bound_broken, sums_of


def lets_booking(sheet, thing):
    """The number of all cents of a close booking; the first error of any other value is raised."""
    if not is_rows_of_numbers(thing):
        raise InvalidPaper("shape", -1)
    state, _, days = sheet
    if len(thing) != len(days):
        raise InvalidPaper("days", -1)
    for d, row in enumerate(thing):
        if len(row) != len(state):
            raise InvalidPaper("lines", d)
    for which in sums_of(sheet):
        word = bound_broken(sheet, thing, which)
        if word is not None:
            raise InvalidPaper(word, which)
    return sum([sum(row) for row in thing])
