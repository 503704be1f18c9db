"""Close bookings, or stuck lists, which show that there are none."""

from centbook.sheetflows import booking_in, least_circulation, pairs_around


def found_booking(sheet):
    """A close booking, or None if there is none."""
    circulation = least_circulation(sheet)
    if circulation.settled() is not None:
        return None
    return booking_in(sheet, circulation)


def stuck_list(sheet):
    """A stuck list, or None if there is none.

    Where flows cannot settle, the least of all that leads to the nodes that were reached
    is more than the most of all that leads away from them.
    """
    circulation = least_circulation(sheet)
    nodes = circulation.settled()
    return None if nodes is None else pairs_around(circulation, nodes)
