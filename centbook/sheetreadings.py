"""Numbers and sheets from texts."""

from math import gcd

from centbook.errors import InvalidText
from centbook.kinds import crosses, is_name

DIGITS = "0123456789"
MOST_DIGITS = 60

# Rows stand in the order of these numbers.
RANKS = {"line": 0, "ended": 0, "section": 1, "day": 2}
LINE = 0
SECTION = 1

# In place of a field: the row has no invalid one.
VALID = -1


def integer_in(word):
    """The integer that a word writes, or None."""
    digits = word.removeprefix("-")
    if not 1 <= len(digits) <= MOST_DIGITS or not all([digit in DIGITS for digit in digits]):
        return None
    if digits[0] == "0" and word != "0":
        return None
    return int(word)


def fraction_in(word):
    """The fraction that a word writes, or None."""
    before, slash, behind = word.partition("/")
    over = integer_in(before)
    under = integer_in(behind) if slash else 1
    if over is None or under is None:
        return None
    if slash and (under < 2 or gcd(over, under) != 1):
        return None
    return over, under


def charge_in(word):
    """The fraction of at least 0 that a word writes, or None."""
    fraction = fraction_in(word)
    if fraction is None or fraction[0] < 0:
        return None
    return fraction


def fraction_read(text):
    """The fraction that a string writes."""
    fraction = fraction_in(text)
    if fraction is None:
        raise InvalidText(0, 0)
    return fraction


def line_field(words, state):
    """The first invalid field of the row of a line behind those of the state, or VALID."""
    before = state[-1][0] if state else ""
    if len(words) < 2 or not is_name(words[1]) or words[1] <= before:
        return 1
    if len(words) < 3 or charge_in(words[2]) is None:
        return 2
    if len(words) < 4 or integer_in(words[3]) is None:
        return 3
    return VALID if len(words) == 4 else 4


def section_field(words, state, sections):
    """The first invalid field of the row of a section behind the sections, or VALID."""
    names = [line[0] for line in state]
    before = ""
    for field, word in enumerate(words[1:], start=1):
        if word not in names or word <= before:
            return field
        before = word
    section = tuple(words[1:])
    if len(section) < 2 or (sections and section <= sections[-1]):
        return len(words)
    if any([crosses(section, earlier) for earlier in sections]):
        return len(words)
    return VALID


def day_field(words, state):
    """The first invalid field of the row of a day, or VALID."""
    for field, word in enumerate(words[1:], start=1):
        if field > len(state):
            return field
        charge = charge_in(word)
        if charge is None or (charge[0] > 0 and not state[field - 1][3]):
            return field
    return VALID if len(words) == len(state) + 1 else len(words)


def invalid_field(rank, words, state, sections):
    """The first invalid field of a row of this rank behind the state and the sections, or VALID."""
    if rank == LINE:
        return line_field(words, state)
    if rank == SECTION:
        return section_field(words, state, sections)
    return day_field(words, state)


def line_of(words):
    """The line of a state that a valid row writes."""
    return words[1], fraction_in(words[2]), integer_in(words[3]), words[0] == "line"


def sheet_read(text):
    """The sheet that a string writes."""
    state, sections, days = [], [], []
    rank = LINE
    for row, line in enumerate(text.split("\n")):
        words = line.split(" ")
        found = RANKS.get(words[0], -1)
        if found < rank or (row == 0 and found != LINE):
            raise InvalidText(row, 0)
        rank = found
        field = invalid_field(rank, words, state, sections)
        if field != VALID:
            raise InvalidText(row, field)
        if rank == LINE:
            state.append(line_of(words))
        elif rank == SECTION:
            sections.append(tuple(words[1:]))
        else:
            days.append(tuple([fraction_in(word) for word in words[1:]]))
    return tuple(state), tuple(sections), tuple(days)
