"""The checker of sheets."""

from centbook.errors import InvalidPaper
from centbook.kinds import sheet_faults


def lets_sheet(thing):
    """(number of lines, number of days) of a sheet; the first error of any other value is raised."""
    for word, at in sheet_faults(thing):
        raise InvalidPaper(word, at)
    state, _, days = thing
    return len(state), len(days)
