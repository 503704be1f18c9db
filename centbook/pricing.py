"""Prices of bookings, and cheapest bookings."""

from math import lcm

from centbook.cheapening import cheapen
from centbook.pairs import pair_times, pair_total
from centbook.sheetflows import booking_in, least_circulation


def price_of(prices, booking):
    """The price of a booking, a fraction."""
    parts = []
    for row, cents in zip(prices, booking):
        parts.extend([pair_times(price, many) for price, many in zip(row, cents)])
    return pair_total(parts)


def scale_of(prices):
    """The least number by which all prices can be multiplied to become integers."""
    scale = 1
    for row in prices:
        for _, under in row:
            scale = lcm(scale, under)
    return scale


def whole_prices(prices, scale):
    """The prices of all entries, multiplied by the scale, by their arcs."""
    whole = {}
    for d, row in enumerate(prices):
        for i, (over, under) in enumerate(row):
            whole["entry", d, i] = over * (scale // under)
    return whole


def cheapest_circulation(sheet, whole):
    """The circulation of a cheapest booking by whole prices, or None if there is no close booking."""
    circulation = least_circulation(sheet)
    if circulation.settled() is not None:
        return None
    cheapen(circulation, whole)
    return circulation


def cheapest(sheet, prices):
    """The least price of a close booking and a booking that has it, or None if there is no close booking."""
    circulation = cheapest_circulation(sheet, whole_prices(prices, scale_of(prices)))
    if circulation is None:
        return None
    booking = booking_in(sheet, circulation)
    return price_of(prices, booking), booking
