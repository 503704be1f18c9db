"""Values, sheets and slow but plain calculations that several tests use."""

import itertools
import math
import random
from fractions import Fraction

# Values of all kinds: none of them is a name, a fraction, a state, a sheet or a booking.
ODD_VALUES = (
    True, False, None, -1, 0, 1, 10 ** 60 - 1, "", " ", "-", "A", "a b", "\n", "1/2",
    [], [()], ["a"], [1, 2], (1,), (1, 2, 3), ((1,),) * 3, ("a", 1), (None,), ((),), ([],),
    ((((),),),), ("", ""), (True, True), ((True, 1),), (("a", (0, 1), 0),),
)


def fraction_pair(value):
    """A Fraction, or an integer, as a pair."""
    value = Fraction(value)
    return value.numerator, value.denominator


def value_of(pair):
    """A pair as a Fraction."""
    return Fraction(pair[0], pair[1])


def line(name, exact=0, cents=0, goes_on=True):
    """A line of a state; exact is a Fraction or an integer."""
    return name, fraction_pair(exact), cents, goes_on


def day(*charges):
    """A day of Fractions or integers."""
    return tuple(fraction_pair(charge) for charge in charges)


def changed(things, at, thing):
    """A tuple with another item at an index."""
    return things[:at] + (thing,) + things[at + 1:]


def random_sections(rng, names, most=3):
    """Sections of some names that do not cross each other."""
    sections = []
    for _ in range(20):
        if len(names) < 2 or len(sections) == most:
            break
        section = tuple(sorted(rng.sample(names, rng.randint(2, len(names)))))
        fits = all(
            set(section) <= set(one) or set(one) <= set(section) or not set(section) & set(one)
            for one in sections
        )
        if fits and section not in sections:
            sections.append(section)
    return tuple(sorted(sections[:rng.randint(0, most)]))


def random_sheet(seed, most_lines=3, most_days=3, astray=1, unders=(1, 2, 2, 3, 4)):
    """Any sheet; the cents of its lines are up to astray cents away from the exact sums."""
    rng = random.Random(seed)
    names = sorted(rng.sample(["a", "b", "bb", "day", "fax", "line", "tel", "z"], rng.randint(1, most_lines)))

    def charge():
        under = rng.choice(unders)
        return Fraction(rng.randint(0, 2 * under), under)

    state = []
    for name in names:
        exact = charge() * rng.randint(0, 3)
        cents = rng.randint(math.floor(exact) - astray + 1, math.ceil(exact) + astray - 1)
        state.append(line(name, exact, cents, rng.random() < 0.85))
    days = [
        day(*[charge() if one[3] and rng.random() < 0.85 else 0 for one in state])
        for _ in range(rng.randint(0, most_days))
    ]
    return tuple(state), random_sections(rng, names), tuple(days)


def plain_sums(sheet):
    """For each sum, in order: (sum, entries, exact value, cents of the state), as the definition says."""
    state, sections, days = sheet
    lines, dates = range(len(state)), range(len(days))
    rows = []
    for d in dates:
        rows.append((("account", d), [(e, i) for e in dates if e <= d for i in lines], list(lines)))
    for d in dates:
        rows.append((("day", d), [(d, i) for i in lines], []))
    for d in dates:
        for i in lines:
            rows.append((("entry", d, i), [(d, i)], []))
    for i in lines:
        for d in dates:
            rows.append((("line", i, d), [(e, i) for e in dates if e <= d], [i]))
    for s, section in enumerate(sections):
        for d in dates:
            rows.append((("section", s, d), [(d, i) for i in lines if state[i][0] in section], []))
    found = []
    for which, entries, before in rows:
        exact = sum(value_of(state[i][1]) for i in before) + sum(value_of(days[d][i]) for d, i in entries)
        found.append((which, entries, Fraction(exact), sum(state[i][2] for i in before)))
    return found


def keeps_bounds(rows, booking):
    """Whether a booking keeps the bounds of plain sums."""
    for _, entries, exact, fixed in rows:
        cents = fixed + sum(booking[d][i] for d, i in entries)
        if not math.floor(exact) <= cents <= math.ceil(exact):
            return False
    return True


def bookings_to_try(sheet):
    """All bookings whose entries keep their bounds."""
    state, _, days = sheet
    choices = []
    for one in days:
        for charge in one:
            exact = value_of(charge)
            choices.append(sorted({math.floor(exact), math.ceil(exact)}))
    many = len(state)
    for cents in itertools.product(*choices):
        yield tuple(cents[k * many:(k + 1) * many] for k in range(len(days)))


def all_close(sheet):
    """All close bookings, found by trying."""
    rows = plain_sums(sheet)
    return [booking for booking in bookings_to_try(sheet) if keeps_bounds(rows, booking)]


def stuck_fault(sheet, thing):
    """What keeps a value from being a stuck list of the sheet, or None."""
    if type(thing) is not tuple or any(type(pair) is not tuple or len(pair) != 2 for pair in thing):
        return "shape"
    if list(thing) != sorted(set(thing)):
        return "order"
    rows = {which: (entries, exact, fixed) for which, entries, exact, fixed in plain_sums(sheet)}
    balance, gain = {}, 0
    for side, which in thing:
        if side not in ("least", "most"):
            return "side"
        if which not in rows or type(which) is not tuple:
            return "sum"
        entries, exact, fixed = rows[which]
        step = 1 if side == "least" else -1
        gain += step * ((math.floor(exact) if step == 1 else math.ceil(exact)) - fixed)
        for entry in entries:
            balance[entry] = balance.get(entry, 0) + step
    if any(balance.values()):
        return "entry"
    return None if gain >= 1 else "gain"
