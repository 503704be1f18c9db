"""Close bookings, walked through day by day.

Only the cents of the lines behind a day matter for the days that follow.
"""

from centbook.pairs import rounded_down, rounded_up
from centbook.sums import least_of, lines_in, most_of


def rows_on(sheet, d):
    """All rows of cents that keep the bounds of the entries, the sections and the whole of day d, ascending."""
    rows = [()]
    for charge in sheet[2][d]:
        least, most = rounded_down(charge), rounded_up(charge)
        rows = [row + (cents,) for row in rows for cents in range(least, most + 1)]
    groups = [("day", d)] + [("section", s, d) for s in range(len(sheet[1]))]
    for which in groups:
        lines = lines_in(sheet, which)
        least, most = least_of(sheet, which), most_of(sheet, which)
        rows = [row for row in rows if least <= sum([row[i] for i in lines]) <= most]
    return rows


def bounds_behind(sheet, d):
    """The bounds (least, most) of the lines up to day d, in order, and last that of the account."""
    sums = [("line", i, d) for i in range(len(sheet[0]))] + [("account", d)]
    return [(least_of(sheet, which), most_of(sheet, which)) for which in sums]


def keeps(bounds, cents):
    """Whether the cents of the lines, and of all together, keep bounds as those of bounds_behind."""
    return all([least <= part <= most for (least, most), part in zip(bounds, cents + (sum(cents),))])


class Walks:
    """The steps by which close bookings of a sheet go from the cents behind one day to those behind the next."""

    def __init__(self, sheet):
        state, _, days = sheet
        self.many = len(days)
        self.first = tuple([line[2] for line in state])
        self.rows = [rows_on(sheet, d) for d in range(self.many)]
        self.bounds = [bounds_behind(sheet, d) for d in range(self.many)]

    def steps_from(self, d, cents):
        """The (row, cents behind it) for all rows that can be booked on day d from these cents on, ascending."""
        steps = []
        for row in self.rows[d]:
            after = tuple([one + more for one, more in zip(cents, row)])
            if keeps(self.bounds[d], after):
                steps.append((row, after))
        return steps

    def reached(self):
        """For each day, and behind the last one, a dict of the cents that are reached before it."""
        layer = {self.first: True}
        layers = [layer]
        for d in range(self.many):
            layer = {after: True for cents in layer for _, after in self.steps_from(d, cents)}
            layers.append(layer)
        return layers

    def leading_to(self, ends):
        """As reached, but only the cents from which some of these ends are reached behind the last day."""
        layers = self.reached()
        behind = {cents: True for cents in layers.pop() if cents in ends}
        kept = [behind]
        for d in reversed(range(self.many)):
            behind = {cents: True for cents in layers[d] if self.leads(d, cents, behind)}
            kept.append(behind)
        return kept[::-1]

    def leads(self, d, cents, behind):
        """Whether a step from these cents on day d leads to some of the cents behind it."""
        return any([after in behind for _, after in self.steps_from(d, cents)])


def walked(walks, layers, d, cents):
    """Yields all bookings of the days from d on, from these cents on through the layers, ascending."""
    if d == walks.many:
        yield ()
        return
    behind = d + 1
    for row, after in walks.steps_from(d, cents):
        if after in layers[behind]:
            for rest in walked(walks, layers, behind, after):
                yield (row,) + rest


def can_be_walked(sheet):
    """Whether a sheet has a close booking; it is found out without changing anything, so that a property may ask."""
    walks = Walks(sheet)
    layers = walks.reached()
    return len(layers[walks.many]) > 0
