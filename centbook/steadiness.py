"""Bookings behind each of whose days the state is open."""

from centbook.steadywalks import SteadyWalks
from centbook.walks import walked


def steady(sheet):
    """A steady booking of a sheet, or None if there is none."""
    walks = SteadyWalks(sheet)
    first = walks.first
    layers = walks.leading_to(walks.reached()[walks.many])
    for booking in walked(walks, layers, 0, first):
        return booking
    return None
