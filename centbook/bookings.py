"""All close bookings of a sheet, and where they end."""

from centbook.walks import Walks, walked


def bookings_of(sheet):
    """Yields all close bookings, ascending."""
    walks = Walks(sheet)
    first = walks.first
    layers = walks.leading_to(walks.reached()[walks.many])
    for booking in walked(walks, layers, 0, first):
        yield booking


def all_ends(sheet):
    """Yields the cents of the lines behind the last day in all close bookings, ascending, each once."""
    walks = Walks(sheet)
    for cents in sorted(walks.reached()[walks.many]):
        yield cents


def booking_to(sheet, cents):
    """A close booking with these cents of the lines behind the last day, or None."""
    walks = Walks(sheet)
    first = walks.first
    layers = walks.leading_to([cents])
    if first in layers[0]:
        for booking in walked(walks, layers, 0, first):
            return booking
    return None
