"""The sums of a sheet: their entries, exact values, bounds and cents."""

from centbook.pairs import pair_total, rounded_down, rounded_up


def sums_of(sheet):
    """Yields all sums, ascending."""
    state, sections, days = sheet
    for d in range(len(days)):
        yield ("account", d)
    for d in range(len(days)):
        yield ("day", d)
    for d in range(len(days)):
        for i in range(len(state)):
            yield ("entry", d, i)
    for i in range(len(state)):
        for d in range(len(days)):
            yield ("line", i, d)
    for s in range(len(sections)):
        for d in range(len(days)):
            yield ("section", s, d)


def days_in(which):
    """The days of the entries of a sum."""
    word = which[0]
    if word == "account":
        return list(range(which[1] + 1))
    if word == "line":
        return list(range(which[2] + 1))
    return [which[2] if word == "section" else which[1]]


def lines_in(sheet, which):
    """The indexes of the lines of the entries of a sum."""
    state, sections, _ = sheet
    word = which[0]
    if word == "entry":
        return [which[2]]
    if word == "line":
        return [which[1]]
    if word == "section":
        names = [line[0] for line in state]
        return [names.index(name) for name in sections[which[1]]]
    return list(range(len(state)))


def lines_with_state_in(sheet, which):
    """The lines of the state that are in a sum with all they had before the first day."""
    word = which[0]
    return [line for i, line in enumerate(sheet[0]) if word == "account" or (word == "line" and i == which[1])]


def entries_of(sheet, which):
    """The entries of a sum, ascending."""
    lines = lines_in(sheet, which)
    return tuple([(d, i) for d in days_in(which) for i in lines])


def exact_of(sheet, which):
    """The exact value of a sum."""
    days = sheet[2]
    before = [line[1] for line in lines_with_state_in(sheet, which)]
    return pair_total(before + [days[d][i] for d, i in entries_of(sheet, which)])


def least_of(sheet, which):
    """The exact value of a sum, rounded down."""
    return rounded_down(exact_of(sheet, which))


def most_of(sheet, which):
    """The exact value of a sum, rounded up."""
    return rounded_up(exact_of(sheet, which))


def fixed_of(sheet, which):
    """The cents of the state that are in a sum."""
    return sum([line[2] for line in lines_with_state_in(sheet, which)])


def cents_of(sheet, booking, which):
    """The cents of a sum by a booking."""
    return fixed_of(sheet, which) + sum([booking[d][i] for d, i in entries_of(sheet, which)])


def bound_broken(sheet, booking, which):
    """The word of the bound of a sum that a booking does not keep: "least" or "most", or None."""
    exact = exact_of(sheet, which)
    cents = cents_of(sheet, booking, which)
    if cents < rounded_down(exact):
        return "least"
    return "most" if cents > rounded_up(exact) else None


def is_close(sheet, booking):
    """Whether a booking is close."""
    for which in sums_of(sheet):
        if bound_broken(sheet, booking, which) is not None:
            return False
    return True
