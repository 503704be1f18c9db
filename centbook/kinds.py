"""The kinds of values, and what keeps a value from being a sheet."""

from math import gcd

LETTERS = "abcdefghijklmnopqrstuvwxyz"
MOST_LETTERS = 8


def is_integer(thing):
    """Whether a value is an integer; a bool is none."""
    return isinstance(thing, int) and not isinstance(thing, bool)


def is_number(thing):
    """Whether a value is an integer of at least 0."""
    return is_integer(thing) and thing >= 0


def is_name(thing):
    """Whether a value is a string of one to eight lowercase letters."""
    if not isinstance(thing, str) or not 1 <= len(thing) <= MOST_LETTERS:
        return False
    return all([letter in LETTERS for letter in thing])


def is_fraction(thing):
    """Whether a value is a pair of integers in lowest terms."""
    if not isinstance(thing, tuple) or len(thing) != 2:
        return False
    over, under = thing
    return is_integer(over) and is_integer(under) and under >= 1 and gcd(over, under) == 1


def is_state(thing):
    """Whether a value is a state."""
    if not is_rows_of_lines(thing) or thing == ():
        return False
    return list(line_faults(thing)) == []


def is_sheet(thing):
    """Whether a value is a sheet."""
    return list(sheet_faults(thing)) == []


def is_rows_of_numbers(thing):
    """Whether a value is a tuple of tuples of numbers."""
    return isinstance(thing, tuple) and all([is_row_of_numbers(row) for row in thing])


def is_row_of_numbers(thing):
    """Whether a value is a tuple of numbers."""
    return isinstance(thing, tuple) and all([is_number(part) for part in thing])


def is_row_of_integers(thing):
    """Whether a value is a tuple of integers."""
    return isinstance(thing, tuple) and all([is_integer(part) for part in thing])


def is_row_of_names(thing):
    """Whether a value is a tuple of names."""
    return isinstance(thing, tuple) and all([is_name(part) for part in thing])


def is_row_of_fractions(thing):
    """Whether a value is a tuple of fractions."""
    return isinstance(thing, tuple) and all([is_fraction(part) for part in thing])


def is_line(thing):
    """Whether a value is a tuple (name, fraction, integer, bool)."""
    if not isinstance(thing, tuple) or len(thing) != 4:
        return False
    name, exact, cents, goes_on = thing
    return is_name(name) and is_fraction(exact) and is_integer(cents) and isinstance(goes_on, bool)


def is_rows_of_lines(thing):
    """Whether a value is a tuple of tuples (name, fraction, integer, bool)."""
    return isinstance(thing, tuple) and all([is_line(part) for part in thing])


def has_sheet_shape(thing):
    """Whether a value is built like a sheet, whatever its parts say."""
    if not isinstance(thing, tuple) or len(thing) != 3:
        return False
    state, sections, days = thing
    if not is_rows_of_lines(state) or not isinstance(sections, tuple) or not isinstance(days, tuple):
        return False
    return all([is_row_of_names(part) for part in sections]) and all([is_row_of_fractions(day) for day in days])


def is_ascending(things):
    """Whether each of some values is greater than the one before."""
    return all([one < other for one, other in zip(things, things[1:])])


def crosses(one, other):
    """Whether two sections have a line in common, and neither contains the other."""
    common = [name for name in one if name in other]
    return 0 < len(common) < min(len(one), len(other))


def sheet_faults(thing):
    """Yields (word, at) for each error of a value that is to be a sheet, in the stated order."""
    if not has_sheet_shape(thing):
        yield ("shape", -1)
        return
    state, sections, days = thing
    if state == ():
        yield ("empty", -1)
    yield from line_faults(state)
    yield from section_faults(sections, state)
    yield from day_faults(days, state)


def line_faults(state):
    """Yields the errors of the lines of a state."""
    before = ""
    for k, line in enumerate(state):
        if line[0] <= before:
            yield ("line", k)
        if line[1][0] < 0:
            yield ("exact", k)
        before = line[0]


def section_faults(sections, state):
    """Yields the errors of sections of a state."""
    names = [line[0] for line in state]
    for s, section in enumerate(sections):
        if not is_ascending(section) or len(section) < 2 or (s > 0 and section <= sections[s - 1]):
            yield ("section", s)
        if not all([name in names for name in section]):
            yield ("unknown", s)
        if any([crosses(section, earlier) for earlier in sections[:s]]):
            yield ("crosses", s)


def day_faults(days, state):
    """Yields the errors of days of a state."""
    for d, day in enumerate(days):
        if len(day) != len(state):
            yield ("many", d)
        for i, (charge, line) in enumerate(zip(day, state)):
            if charge[0] < 0 or (charge[0] > 0 and not line[3]):
                yield ("charge", (d, i))
