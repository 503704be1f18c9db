"""How sums, and lists of sums with their sides, are built."""

from centbook.kinds import is_number

# For each word of a sum, how many numbers stand behind it.
NUMBERS = {"account": 1, "day": 1, "entry": 2, "line": 2, "section": 2}
SIDES = ("least", "most")


def is_sum_by_shape(thing):
    """Whether a value is the word of a sum with as many numbers as belong to it, however great."""
    if not isinstance(thing, tuple) or thing == () or not isinstance(thing[0], str):
        return False
    if NUMBERS.get(thing[0], -1) != len(thing) - 1:
        return False
    return all([is_number(part) for part in thing[1:]])


def is_sum_of(sheet, which):
    """Whether a sum by shape is a sum of the sheet."""
    state, sections, days = sheet
    lines, dates = len(state), len(days)
    limits = {
        "account": (dates,), "day": (dates,), "entry": (dates, lines), "line": (lines, dates),
        "section": (len(sections), dates),
    }
    return all([number < limit for number, limit in zip(which[1:], limits[which[0]])])


def is_side(thing, sides):
    """Whether a value is one of some sides."""
    return isinstance(thing, str) and thing in sides


def is_list_by_shape(thing, sides):
    """Whether a value is a tuple of pairs of one of some sides and a sum by shape."""
    if not isinstance(thing, tuple) or not all([isinstance(pair, tuple) and len(pair) == 2 for pair in thing]):
        return False
    return all([is_side(side, sides) and is_sum_by_shape(which) for side, which in thing])
