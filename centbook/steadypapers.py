"""Papers that show a steady booking, or that there is none."""

from centbook.steadiness import steady
from centbook.steadywalks import SteadyWalks


def reached_table(sheet):
    """For each day the cents of all open states that steady bookings of the days up to it reach, ascending."""
    walks = SteadyWalks(sheet)
    layers = walks.reached()
    return tuple([tuple(sorted(layer)) for layer in layers[1:]])


def steady_paper(sheet):
    """A steady paper of a sheet."""
    booking = steady(sheet)
    if booking is None:
        return "never", reached_table(sheet)
    return "steady", booking
