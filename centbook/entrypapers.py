"""Papers that show whether an entry is free or forced."""

from centbook.sheetflows import booking_in, least_circulation, pairs_around


def list_against(circulation, entry, step):
    """The list that shows why the cents of an entry cannot change by step, or None if now they have changed.

    The circulation is that of a close booking.
    """
    side, bound = ("more", "most") if step > 0 else ("less", "least")
    if circulation.spare(entry, step) == 0:
        return tuple(sorted([(side, entry), (bound, entry)]))
    nodes = circulation.pushed(entry, step, 1)
    if nodes is None:
        return None
    pairs = [pair for pair in pairs_around(circulation, nodes) if pair[1] != entry]
    return tuple(sorted(pairs + [(side, entry)]))


def entry_paper(sheet, d, i):
    """An entry paper for an entry, or None if there is no close booking."""
    circulation = least_circulation(sheet)
    if circulation.settled() is not None:
        return None
    booking = booking_in(sheet, circulation)
    lists = []
    for step in (1, -1):
        pairs = list_against(circulation, ("entry", d, i), step)
        if pairs is None:
            return "free", booking, booking_in(sheet, circulation)
        lists.append(pairs)
    more, less = lists
    return "forced", booking, more, less
