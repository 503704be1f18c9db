"""The fewest corrected cents after which a state is open, or a sheet has a close booking."""

from centbook.correctionflows import cent_prices, changes_in, corrected_circulation
from centbook.states import open_states


def size_of(changes):
    """The size of corrections."""
    return sum([abs(change) for change in changes])


def no_changes(state):
    """The corrections that change nothing."""
    return tuple([0 for _ in state])


def corrected(state):
    """Corrections of least size after which a state is open, or None if there are none."""
    best = None
    for other in open_states(state):
        changes = tuple([wanted[2] - line[2] for wanted, line in zip(other, state)])
        if best is None or size_of(changes) < size_of(best):
            best = changes
    return best


def corrections(sheet):
    """Corrections of least size that fit a sheet."""
    state, _, days = sheet
    if days == ():
        return no_changes(state)
    return changes_in(state, corrected_circulation(sheet, cent_prices(state)))
