"""How sums, and lists of sums with their sides, are built."""

from centbook.kinds import is_number

# For each word of a sum, how many numbers stand behind it.
NUMBERS = {"account": 1, "day": 1, "entry": 2, "line": 2, "section": 2}
SIDES = ("least", "most")


def is_rows_of(thing, many):
    """Whether a value is a tuple of tuples of so many parts."""
    return isinstance(thing, tuple) and all([isinstance(row, tuple) and len(row) == many for row in thing])


def begins_with_word(thing):
    """Whether a value is a tuple that begins with a string."""
    return isinstance(thing, tuple) and thing != () and isinstance(thing[0], str)


def is_sum_by_shape(thing):
    """Whether a value is the word of a sum with as many numbers as belong to it, however great."""
    if not begins_with_word(thing):
        return False
    if NUMBERS.get(thing[0], -1) != len(thing) - 1:
        return False
    return all([is_number(part) for part in thing[1:]])


def is_sum_of(sheet, which):
    """Whether a sum by shape is a sum of the sheet."""
    state, sections, days = sheet
    lines, dates = len(state), len(days)
    limits = {
        "account": (dates,), "day": (dates,), "entry": (dates, lines), "line": (lines, dates),
        "section": (len(sections), dates),
    }
    return all([number < limit for number, limit in zip(which[1:], limits[which[0]])])


def is_list_by_shape(thing, sides):
    """Whether a value is a tuple of pairs of one of some sides and a sum by shape."""
    if not is_rows_of(thing, 2):
        return False
    return all([side in sides and is_sum_by_shape(which) for side, which in thing])


def is_loose_list(thing):
    """Whether a value is a tuple of pairs of a string and a tuple that begins with a string."""
    if not is_rows_of(thing, 2):
        return False
    return all([isinstance(side, str) and begins_with_word(which) for side, which in thing])
