"""The sums of a sheet as a network.

Each sum is an arc, and its cents from entries are the flow of the arc. An account
divides into the account before and a day, a day into its sections and entries, a
section into smaller sections and entries. On the other side entries and the line up
to the day before meet in the line up to their day, and all lines meet in the account.
So at each node as much flows in as out, whatever is booked.
"""

ROOT = ("root",)


def smallest_around(sections, names):
    """The index of the smallest section that contains more than just these names, or -1."""
    best = -1
    for s, section in enumerate(sections):
        if len(section) > len(names) and all([name in section for name in names]):
            if best < 0 or len(section) < len(sections[best]):
                best = s
    return best


def node_around(sections, names, d):
    """The node of the smallest section around these names on a day, or else of the day."""
    s = smallest_around(sections, names)
    return ("day", d) if s < 0 else ("section", s, d)


def next_day(which, many):
    """The node of the same account or line one day later; behind the last of many days the root."""
    d = which[-1] + 1
    return ROOT if d == many else which[:-1] + (d,)


def ends_of(sheet, which):
    """The nodes at which the arc of a sum begins and ends."""
    state, sections, days = sheet
    word = which[0]
    if word == "account":
        return next_day(which, len(days)), which
    if word == "day":
        return ("account", which[1]), which
    if word == "section":
        s, d = which[1:]
        return node_around(sections, sections[s], d), which
    if word == "entry":
        d, i = which[1:]
        return node_around(sections, (state[i][0],), d), ("line", i, d)
    return which, next_day(which, len(days))
