"""Papers that show that a booking is cheapest."""

from centbook.cheapening import slopes_of
from centbook.pairs import lowest
from centbook.pricing import cheapest_circulation, scale_of, whole_prices
from centbook.sheetflows import booking_in


def cheapest_paper(sheet, prices):
    """A cheapest paper, or None if there is no close booking."""
    scale = scale_of(prices)
    whole = whole_prices(prices, scale)
    circulation = cheapest_circulation(sheet, whole)
    if circulation is None:
        return None
    weights = []
    for which, slope in slopes_of(circulation, whole).items():
        if slope != 0:
            weights.append(("least" if slope > 0 else "most", which, lowest(abs(slope), scale)))
    return booking_in(sheet, circulation), tuple(sorted(weights))
