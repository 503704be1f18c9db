"""Entries that have the same cents in all close bookings, and entries that do not."""

from centbook.sheetflows import least_circulation


def can_turn(circulation, arc):
    """Whether the flow of an arc can change in a settled circulation of a sheet.

    It can if a cycle goes through the arc, so if its beginning is reached from its end.
    """
    for step in (1, -1):
        if circulation.spare(arc, step) > 0:
            goal, start = circulation.move_ends(arc, step)
            return goal in circulation.reached_from(start)
    return False


def forced_entries(sheet):
    """The ascending (d, i, cents) of all forced entries, or None if there is no close booking."""
    circulation = least_circulation(sheet)
    if circulation.settled() is not None:
        return None
    entries = [arc for arc in circulation.ends if arc[0] == "entry" and not can_turn(circulation, arc)]
    return tuple([(d, i, circulation.flows["entry", d, i]) for _, d, i in entries])


def is_free(sheet, d, i):
    """Whether two close bookings have different cents at an entry."""
    circulation = least_circulation(sheet)
    return circulation.settled() is None and can_turn(circulation, ("entry", d, i))
