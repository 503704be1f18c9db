"""Papers that show that corrections of a sheet are the fewest."""

from centbook.cheapening import slopes_of, weights_by
from centbook.correcting import no_changes
from centbook.correctionflows import cent_prices, changes_in, corrected_circulation
from centbook.sheetflows import booking_in


def correction_paper(sheet):
    """A correction paper of a sheet."""
    state, _, days = sheet
    if days == ():
        return no_changes(state), (), ()
    prices = cent_prices(state)
    circulation = corrected_circulation(sheet, prices)
    slopes = slopes_of(circulation, prices)
    sums = {arc: slopes[arc] for arc in slopes if arc not in prices}
    return changes_in(state, circulation), booking_in(sheet, circulation), weights_by(sums, 1)
