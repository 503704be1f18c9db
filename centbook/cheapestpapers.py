"""Papers that show that a booking is cheapest."""

from centbook.cheapening import slopes_of, weights_by
from centbook.pricing import cheapest_circulation, scale_of, whole_prices
from centbook.sheetflows import booking_in


def cheapest_paper(sheet, prices):
    """A cheapest paper, or None if there is no close booking."""
    scale = scale_of(prices)
    whole = whole_prices(prices, scale)
    circulation = cheapest_circulation(sheet, whole)
    if circulation is None:
        return None
    return booking_in(sheet, circulation), weights_by(slopes_of(circulation, whole), scale)
