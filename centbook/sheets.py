"""Fresh states, states after a booking or with other cents, and parts of sheets."""

from centbook.pairs import pair_sum, pair_total


def fresh(*lines):
    """The fresh state of some distinct names."""
    return tuple([(name, (0, 1), 0, True) for name in sorted(lines)])


def state_after(sheet, booking):
    """The state after all days of a booking, close or not."""
    state, _, days = sheet
    after = []
    for i, (name, exact, cents, goes_on) in enumerate(state):
        charged = pair_total([day[i] for day in days])
        booked = sum([row[i] for row in booking])
        after.append((name, pair_sum(exact, charged), cents + booked, goes_on))
    return tuple(after)


def changed_state(state, changes):
    """The state with one integer for each line added to its cents."""
    return tuple([
        (name, exact, cents + change, goes_on) for (name, exact, cents, goes_on), change in zip(state, changes)
    ])


def part(sheet, first, count):
    """The sheet with only count of its days, from day first on."""
    state, sections, days = sheet
    return state, sections, days[first:first + count]
