"""Values, sheets and slow but plain calculations that several tests use."""

import itertools
import math
import random
from fractions import Fraction

from centbook.errors import InvalidPaper

# Values of all kinds: none of them is a name, a fraction, a state, a sheet or a booking.
ODD_VALUES = (
    True, False, None, -1, 0, 1, 10 ** 60 - 1, "", " ", "-", "A", "a b", "\n", "1/2",
    [], [()], ["a"], [1, 2], (1,), (1, 2, 3), ((1,),) * 3, ("a", 1), (None,), ((),), ([],),
    ((((),),),), ("", ""), (True, True), ((True, 1),), (("a", (0, 1), 0),),
)


def fraction_pair(value):
    """A Fraction, or an integer, as a pair."""
    value = Fraction(value)
    return value.numerator, value.denominator


def value_of(pair):
    """A pair as a Fraction."""
    return Fraction(pair[0], pair[1])


def line(name, exact=0, cents=0, goes_on=True):
    """A line of a state; exact is a Fraction or an integer."""
    return name, fraction_pair(exact), cents, goes_on


def day(*charges):
    """A day of Fractions or integers."""
    return tuple(fraction_pair(charge) for charge in charges)


def changed(things, at, thing):
    """A tuple with another item at an index."""
    return things[:at] + (thing,) + things[at + 1:]


def random_sections(rng, names, most=3):
    """Sections of some names that do not cross each other."""
    sections = []
    for _ in range(20):
        if len(names) < 2 or len(sections) == most:
            break
        section = tuple(sorted(rng.sample(names, rng.randint(2, len(names)))))
        fits = all(
            set(section) <= set(one) or set(one) <= set(section) or not set(section) & set(one)
            for one in sections
        )
        if fits and section not in sections:
            sections.append(section)
    return tuple(sorted(sections[:rng.randint(0, most)]))


def random_sheet(seed, most_lines=3, most_days=3, astray=1, unders=(1, 2, 2, 3, 4)):
    """Any sheet; the cents of its lines are up to astray cents away from the exact sums."""
    rng = random.Random(seed)
    names = sorted(rng.sample(["a", "b", "bb", "day", "fax", "line", "tel", "z"], rng.randint(1, most_lines)))

    def charge():
        under = rng.choice(unders)
        return Fraction(rng.randint(0, 2 * under), under)

    state = []
    for name in names:
        exact = charge() * rng.randint(0, 3)
        cents = rng.randint(math.floor(exact) - astray + 1, math.ceil(exact) + astray - 1)
        state.append(line(name, exact, cents, rng.random() < 0.85))
    days = [
        day(*[charge() if one[3] and rng.random() < 0.85 else 0 for one in state])
        for _ in range(rng.randint(0, most_days))
    ]
    return tuple(state), random_sections(rng, names), tuple(days)


def plain_sums(sheet):
    """For each sum, in order: (sum, entries, exact value, cents of the state), as the definition says."""
    state, sections, days = sheet
    lines, dates = range(len(state)), range(len(days))
    rows = []
    for d in dates:
        rows.append((("account", d), [(e, i) for e in dates if e <= d for i in lines], list(lines)))
    for d in dates:
        rows.append((("day", d), [(d, i) for i in lines], []))
    for d in dates:
        for i in lines:
            rows.append((("entry", d, i), [(d, i)], []))
    for i in lines:
        for d in dates:
            rows.append((("line", i, d), [(e, i) for e in dates if e <= d], [i]))
    for s, section in enumerate(sections):
        for d in dates:
            rows.append((("section", s, d), [(d, i) for i in lines if state[i][0] in section], []))
    found = []
    for which, entries, before in rows:
        exact = sum(value_of(state[i][1]) for i in before) + sum(value_of(days[d][i]) for d, i in entries)
        found.append((which, entries, Fraction(exact), sum(state[i][2] for i in before)))
    return found


def keeps_bounds(rows, booking):
    """Whether a booking keeps the bounds of plain sums."""
    for _, entries, exact, fixed in rows:
        cents = fixed + sum(booking[d][i] for d, i in entries)
        if not math.floor(exact) <= cents <= math.ceil(exact):
            return False
    return True


def bookings_to_try(sheet):
    """All bookings whose entries keep their bounds."""
    state, _, days = sheet
    choices = []
    for one in days:
        for charge in one:
            exact = value_of(charge)
            choices.append(sorted({math.floor(exact), math.ceil(exact)}))
    many = len(state)
    for cents in itertools.product(*choices):
        yield tuple(cents[k * many:(k + 1) * many] for k in range(len(days)))


def all_close(sheet):
    """All close bookings, found by trying."""
    rows = plain_sums(sheet)
    return [booking for booking in bookings_to_try(sheet) if keeps_bounds(rows, booking)]


def stuck_fault(sheet, thing):
    """What keeps a value from being a stuck list of the sheet, or None."""
    if type(thing) is not tuple or any(type(pair) is not tuple or len(pair) != 2 for pair in thing):
        return "shape"
    if list(thing) != sorted(set(thing)):
        return "order"
    rows = {which: (entries, exact, fixed) for which, entries, exact, fixed in plain_sums(sheet)}
    balance, gain = {}, 0
    for side, which in thing:
        if side not in ("least", "most"):
            return "side"
        if which not in rows or type(which) is not tuple:
            return "sum"
        entries, exact, fixed = rows[which]
        step = 1 if side == "least" else -1
        gain += step * ((math.floor(exact) if step == 1 else math.ceil(exact)) - fixed)
        for entry in entries:
            balance[entry] = balance.get(entry, 0) + step
    if any(balance.values()):
        return "entry"
    return None if gain >= 1 else "gain"


def caught_error(function, *values):
    """What a call returns, or (word, at) of the InvalidPaper that it raises."""
    try:
        return function(*values)
    except InvalidPaper as error:
        return error.word, error.at


def looks_like(thing, like):
    """Whether a value equals another one and has the same kinds in it, so that True is not 1."""
    if type(thing) is not type(like):
        return False
    if isinstance(thing, (tuple, list)):
        return len(thing) == len(like) and all(looks_like(one, other) for one, other in zip(thing, like))
    return thing == like


def places_in(thing, path=()):
    """The paths of indexes to all parts of nested tuples, the whole included."""
    yield path
    if isinstance(thing, tuple):
        for k, part in enumerate(thing):
            yield from places_in(part, path + (k,))


def part_at(thing, path):
    """The part of nested tuples at a path."""
    for k in path:
        thing = thing[k]
    return thing


def put_at(thing, path, part):
    """Nested tuples with another part at a path."""
    if not path:
        return part
    return changed(thing, path[0], put_at(thing[path[0]], path[1:], part))


def spoiled(thing, rng):
    """Nested tuples with one of their parts removed, repeated, turned over or replaced."""
    path = rng.choice(list(places_in(thing)))
    part = part_at(thing, path)
    others = [part_at(thing, rng.choice(list(places_in(thing)))), rng.choice(ODD_VALUES)]
    if isinstance(part, bool):
        others.append(not part)
    elif isinstance(part, int):
        others.extend([part + 1, part - 1, -part, part == 1, str(part), part + 7, 0, 1, 2] * 2)
    elif isinstance(part, str):
        others.extend(["least", "most", "more", "less", "free", "forced", "account", "day", "entry", "line", "section"])
    elif isinstance(part, tuple):
        k = rng.randint(0, len(part))
        others.extend([list(part), part[::-1], part[:k] + part[k + 1:], part[:k] + part[k:k + 1] + part[k:], part[:k], part + part])
        others.extend([tuple(rng.sample(part, len(part))), tuple(sorted(part, key=repr))])
    return put_at(thing, path, rng.choice(others))


def is_plain_number(thing):
    return type(thing) is int and thing >= 0


def is_plain_rows(thing):
    """Whether a value is a tuple of tuples of numbers."""
    return type(thing) is tuple and all(type(row) is tuple and all(map(is_plain_number, row)) for row in thing)


def is_plain_sum(thing):
    """Whether a value is a sum by shape."""
    if type(thing) is not tuple or not thing or type(thing[0]) is not str:
        return False
    many = {"account": 1, "day": 1, "entry": 2, "line": 2, "section": 2}.get(thing[0])
    return many == len(thing) - 1 and all(map(is_plain_number, thing[1:]))


def is_plain_list(thing, sides):
    """Whether a value is a list of sums with sides by shape."""
    return type(thing) is tuple and all(
        type(pair) is tuple and len(pair) == 2 and type(pair[0]) is str and pair[0] in sides and is_plain_sum(pair[1])
        for pair in thing
    )


def list_error(sheet, pairs, extra=None):
    """The first error (word, place) of a list by shape, or the gain of a list without one.

    extra has the sums and bounds of more sides: {"more": (1, sum, bound)}, with -1 in place of 1 for one like "most".
    """
    extra = extra or {}
    if list(pairs) != sorted(set(pairs)):
        return "order", -1
    rows = {which: (entries, exact, fixed) for which, entries, exact, fixed in plain_sums(sheet)}
    balance = {(d, i): 0 for d in range(len(sheet[2])) for i in range(len(sheet[0]))}
    gain = 0
    for k, (side, which) in enumerate(pairs):
        if which not in rows or (side in extra and extra[side][1] != which):
            return "sum", k
    for side, which in pairs:
        entries, exact, fixed = rows[which]
        if side in extra:
            step, _, bound = extra[side]
        else:
            step, bound = (1, math.floor(exact)) if side == "least" else (-1, math.ceil(exact))
        gain += step * (bound - fixed)
        for entry in entries:
            balance[entry] += step
    for entry in sorted(balance):
        if balance[entry] != 0:
            return "entry", entry
    return gain if gain >= 1 else ("gain", -1)


def stuck_error(sheet, thing):
    """The first error (word, at) of any value that is to be a stuck list, or its gain."""
    return list_error(sheet, thing) if is_plain_list(thing, ("least", "most")) else ("shape", -1)


def steps_between(one, other):
    """The (d, i, step) by which a booking differs from another one."""
    return tuple(
        (d, i, more - less) for d, (row, further) in enumerate(zip(one, other))
        for i, (less, more) in enumerate(zip(row, further)) if more != less
    )


def plain_exchanges(close, booking):
    """All exchanges of a close booking, ascending, as the definition says; close has all close bookings."""
    changes = [steps_between(booking, other) for other in close if other != booking]
    known = set(changes)
    found = []
    for change in changes:
        parts = [part for part in changes if len(part) < len(change) and set(part) < set(change)]
        if not any(tuple(row for row in change if row not in part) in known for part in parts):
            found.append(change)
    return sorted(found)


def plain_balances(state):
    """(ahead, behind, ended) of a state as Fractions."""
    rows = [(cents - value_of(exact), goes_on) for _, exact, cents, goes_on in state]
    return (
        sum((off for off, goes_on in rows if goes_on and off > 0), Fraction(0)),
        sum((-off for off, goes_on in rows if goes_on and off < 0), Fraction(0)),
        sum((off for off, goes_on in rows if not goes_on), Fraction(0)),
    )


def is_plain_close(state):
    """Whether a state is close."""
    rows = [(value_of(exact), cents) for _, exact, cents, _ in state]
    rows.append((sum(exact for exact, _ in rows), sum(cents for _, cents in rows)))
    return all(math.floor(exact) <= cents <= math.ceil(exact) for exact, cents in rows)


def is_plain_open(state):
    """Whether a state is close and open."""
    ahead, behind, ended = plain_balances(state)
    return is_plain_close(state) and max(ahead, behind, ahead + ended, behind - ended) < 1


def close_state(rng, names, unders=(2, 3, 4), ends=0.0):
    """Any close state with these names."""
    while True:
        state = []
        for name in names:
            exact = Fraction(rng.randint(0, 12), rng.choice(unders))
            state.append(line(name, exact, rng.choice((math.floor(exact), math.ceil(exact))), rng.random() >= ends))
        if is_plain_close(state):
            return tuple(state)


def shifted(state, changes):
    """The state with integers added to the cents of its lines."""
    return tuple((name, exact, cents + change, goes_on) for (name, exact, cents, goes_on), change in zip(state, changes))


def changes_of_size(many, size):
    """All tuples of so many integers whose sizes add up to this one."""
    if many == 0:
        if size == 0:
            yield ()
        return
    for change in range(-size, size + 1):
        for rest in changes_of_size(many - 1, size - abs(change)):
            yield (change,) + rest


def plain_states_behind(sheet, booking):
    """The state behind each day of a booking."""
    state, _, days = sheet
    exacts, cents, found = [value_of(one[1]) for one in state], [one[2] for one in state], []
    for charges, row in zip(days, booking):
        exacts = [exact + value_of(charge) for exact, charge in zip(exacts, charges)]
        cents = [one + more for one, more in zip(cents, row)]
        found.append(tuple((one[0], fraction_pair(exact), many, one[3]) for one, exact, many in zip(state, exacts, cents)))
    return found


def is_plain_steady(sheet, booking):
    """Whether a close booking is steady."""
    return all(map(is_plain_open, plain_states_behind(sheet, booking)))


def booking_error(sheet, thing):
    """The first error (word, at) of any value that is to be a close booking, or the number of its cents."""
    if not is_plain_rows(thing):
        return "shape", -1
    state, _, days = sheet
    if len(thing) != len(days):
        return "days", -1
    for d, row in enumerate(thing):
        if len(row) != len(state):
            return "lines", d
    for which, entries, exact, fixed in plain_sums(sheet):
        cents = fixed + sum(thing[d][i] for d, i in entries)
        if cents < math.floor(exact):
            return "least", which
        if cents > math.ceil(exact):
            return "most", which
    return sum(map(sum, thing))
