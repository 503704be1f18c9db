"""Corrections as flows beside the sums of a sheet.

The cents of a line before the first day flow from the account up to day 0 to the line up
to day 0. In each close booking they are at most one below the exact sum rounded down, and
at most two above it. So this flow consists of a start below that, and of a few single
cents, each with a price: 1 if it leads away from the cents that the line has, -1 if it
leads to them.
"""

from centbook.cheapening import cheapen
from centbook.pairs import rounded_down
from centbook.sheetflows import least_circulation
from centbook.sheets import changed_state

# One less and one more than what can be reached: so there is always a cent to be taken, and one to be left.
BELOW = 2
ABOVE = 3
CENTS = BELOW + ABOVE


def starts_of(state):
    """For each line the cents from which the single cents are counted."""
    return [rounded_down(exact) - BELOW for _, exact, _, _ in state]


def cent_prices(state):
    """The price of each single cent of a line, by its arc."""
    prices = {}
    for i, (start, line) in enumerate(zip(starts_of(state), state)):
        for k in range(CENTS):
            prices["cent", i, k] = 1 if start + k >= line[2] else -1
    return prices


def corrected_circulation(sheet, prices):
    """The circulation of a close booking after the fewest corrections of a sheet with days."""
    state, sections, days = sheet
    changes = [start - line[2] for start, line in zip(starts_of(state), state)]
    circulation = least_circulation((changed_state(state, changes), sections, days))
    for arc in prices:
        circulation.add_arc(arc, (("account", 0), ("line", arc[1], 0)), (0, 1), 0)
    circulation.settled()
    cheapen(circulation, prices)
    return circulation


def changes_in(state, circulation):
    """The corrections that a circulation makes."""
    changes = []
    for i, (start, line) in enumerate(zip(starts_of(state), state)):
        taken = sum([circulation.flows["cent", i, k] for k in range(CENTS)])
        changes.append(start + taken - line[2])
    return tuple(changes)
