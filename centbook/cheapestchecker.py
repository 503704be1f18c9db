"""The checker of cheapest papers."""

from centbook.bookingchecker import booking_fault
from centbook.errors import InvalidPaper
from centbook.kinds import is_ascending, is_fraction, is_rows_of_numbers
from centbook.pricing import price_of
from centbook.shapes import SIDES, is_list_by_shape, is_rows_of, is_sum_of
from centbook.weights import loads_of, worth_of


def is_weights_by_shape(thing):
    """Whether a value is a tuple of (side, sum, fraction), with sides and sums by shape."""
    if not is_rows_of(thing, 3):
        return False
    return is_list_by_shape(tuple([row[:2] for row in thing]), SIDES) and all([is_fraction(row[2]) for row in thing])


def is_cheapest_by_shape(thing):
    """Whether a value is built like a cheapest paper."""
    if not isinstance(thing, tuple) or len(thing) != 2:
        return False
    return is_rows_of_numbers(thing[0]) and is_weights_by_shape(thing[1])


def check_weights(sheet, prices, weights):
    """Raises the first error of weights by shape that are to add up to the prices."""
    if not is_ascending([row[:2] for row in weights]):
        raise InvalidPaper("order", -1)
    for k, (_, which, weight) in enumerate(weights):
        if not is_sum_of(sheet, which):
            raise InvalidPaper("sum", k)
        if weight[0] <= 0:
            raise InvalidPaper("weight", k)
    for (d, i), load in loads_of(sheet, weights).items():
        if load != prices[d][i]:
            raise InvalidPaper("entry", (d, i))


def lets_cheapest(sheet, prices, thing):
    """The price of the booking of a cheapest paper; the first error of any other value is raised."""
    if not is_cheapest_by_shape(thing):
        raise InvalidPaper("shape", -1)
    booking, weights = thing
    if booking_fault(sheet, booking) is not None:
        raise InvalidPaper("booking", -1)
    check_weights(sheet, prices, weights)
    price = price_of(prices, booking)
    if worth_of(sheet, weights) != price:
        raise InvalidPaper("worth", -1)
    return price
