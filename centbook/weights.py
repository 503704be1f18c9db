"""Sums of a sheet with weights: how they load the entries, and what their bounds are worth.

A row is (side, sum, weight). With the side "least" a bound from below is multiplied by
the weight, with "most" one from above, which counts with the sign turned. In a stuck
list each pair has the weight one.
"""

from centbook.pairs import pair_sum, pair_times, pair_total, pair_turned
from centbook.sums import entries_of, fixed_of, least_of, most_of


def weighed_once(pairs):
    """The rows of a list of pairs (side, sum)."""
    return [(side, which, (1, 1)) for side, which in pairs]


def signed_weight(side, weight):
    """A weight as it counts on its side."""
    return weight if side == "least" else pair_turned(weight)


def bound_of(sheet, side, which):
    """The bound of a sum for the cents of its entries."""
    bound = least_of(sheet, which) if side == "least" else most_of(sheet, which)
    return bound - fixed_of(sheet, which)


def loads_of(sheet, rows):
    """For each entry, ascending, what the weights of all sums with it add up to."""
    state, _, days = sheet
    loads = {(d, i): (0, 1) for d in range(len(days)) for i in range(len(state))}
    for side, which, weight in rows:
        signed = signed_weight(side, weight)
        for entry in entries_of(sheet, which):
            loads[entry] = pair_sum(loads[entry], signed)
    return loads


def loaded_entry(sheet, rows):
    """The first entry, ascending, whose load is not zero, or None."""
    for entry, load in loads_of(sheet, rows).items():
        if load != (0, 1):
            return entry
    return None


def state_loads_of(sheet, rows):
    """For each line what the weights of all sums with its state, of the account and of the line, add up to."""
    loads = []
    for i in range(len(sheet[0])):
        with_state = [row for row in rows if row[1][0] == "account" or row[1][:2] == ("line", i)]
        loads.append(pair_total([signed_weight(side, weight) for side, _, weight in with_state]))
    return loads


def worth_of(sheet, rows):
    """What the bounds of all sums add up to, each multiplied by its weight."""
    parts = []
    for side, which, weight in rows:
        parts.append(pair_times(signed_weight(side, weight), bound_of(sheet, side, which)))
    return pair_total(parts)


def gain_of(sheet, pairs):
    """What the bounds of the sums of a list add up to, an integer."""
    return worth_of(sheet, weighed_once(pairs))[0]
