"""Exchanges: the smallest steps from one close booking to another.

The bounds of a sum are at most one cent apart. So in the network of the sheet an exchange is
a simple cycle along which one cent more flows, and the way between two bookings consists of
the simple cycles into which the change of all flows can be divided.
"""

from centbook.cycles import cycles_through, divided
from centbook.errors import InvalidStep
from centbook.kinds import is_ascending, is_integer, is_number
from centbook.sheetflows import circulation_of
from centbook.sums import is_close


def exchange_in(cycle):
    """The exchange that a cycle makes: its entries and their steps."""
    return tuple(sorted([arc[1:] + (step,) for arc, step in cycle if arc[0] == "entry"]))


def exchanges_from(circulation, arc, barred):
    """All exchanges with the entry of an arc, ascending, without the barred entries."""
    for step in (1, -1):
        if circulation.spare(arc, step) > 0:
            return sorted([exchange_in(cycle) for cycle in cycles_through(circulation, arc, step, barred)])
    return []


def exchanges(sheet, booking):
    """Yields all exchanges of a close booking, ascending."""
    circulation = circulation_of(sheet, booking)
    barred = {}
    for arc in list(circulation.ends):
        if arc[0] == "entry":
            for exchange in exchanges_from(circulation, arc, barred):
                yield exchange
            barred[arc] = True


def is_step_row(thing):
    """Whether a value is a tuple of two numbers and 1 or -1."""
    if not isinstance(thing, tuple) or len(thing) != 3:
        return False
    return is_number(thing[0]) and is_number(thing[1]) and is_integer(thing[2]) and thing[2] in (1, -1)


def is_exchange_by_shape(sheet, thing):
    """Whether a value is a nonempty tuple of steps at distinct entries of the sheet, ascending."""
    if not isinstance(thing, tuple) or thing == () or not all([is_step_row(row) for row in thing]):
        return False
    state, _, days = sheet
    return is_ascending([row[:2] for row in thing]) and all([d < len(days) and i < len(state) for d, i, _ in thing])


def with_steps(booking, exchange):
    """The booking with the steps of an exchange."""
    rows = [list(row) for row in booking]
    for d, i, step in exchange:
        rows[d][i] += step
    return tuple([tuple(row) for row in rows])


def cycles_between(sheet, one, other):
    """The simple cycles that lead from one close booking to another one."""
    circulation = circulation_of(sheet, one)
    goal = circulation_of(sheet, other)
    changes = {arc: goal.flows[arc] - flow for arc, flow in circulation.flows.items()}
    return divided(circulation, {arc: change for arc, change in changes.items() if change != 0})


def is_exchange(sheet, booking, thing):
    """Whether any value is an exchange of a close booking."""
    if not is_exchange_by_shape(sheet, thing):
        return False
    reached = with_steps(booking, thing)
    return is_close(sheet, reached) and len(cycles_between(sheet, booking, reached)) == 1


def exchanged(sheet, booking, *some):
    """The booking that is reached by some exchanges, one after the other."""
    reached = with_steps(booking, ())
    for step in some:
        if not is_exchange(sheet, reached, step):
            raise InvalidStep(step, "exchange")
        reached = with_steps(reached, step)
    return reached


def way_between(sheet, one, other):
    """A tuple of exchanges that lead from one close booking to another one."""
    return tuple([exchange_in(cycle) for cycle in cycles_between(sheet, one, other)])
