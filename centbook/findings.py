"""Close bookings, or stuck lists, which show that there are none."""

from centbook.circulations import Circulation
from centbook.networks import ends_of
from centbook.pairs import rounded_down
from centbook.sums import entries_of, fixed_of, least_of, most_of, sums_of


def circulation_of(sheet):
    """The circulation of a sheet, which begins with the least cents of each entry."""
    days = sheet[2]
    circulation = Circulation()
    for which in sums_of(sheet):
        fixed = fixed_of(sheet, which)
        bounds = (least_of(sheet, which) - fixed, most_of(sheet, which) - fixed)
        flow = sum([rounded_down(days[d][i]) for d, i in entries_of(sheet, which)])
        circulation.add_arc(which, ends_of(sheet, which), bounds, flow)
    return circulation


def found_booking(sheet):
    """A close booking, or None if there is none."""
    circulation = circulation_of(sheet)
    if circulation.settled() is not None:
        return None
    state, _, days = sheet
    flows = circulation.flows
    return tuple([tuple([flows["entry", d, i] for i in range(len(state))]) for d in range(len(days))])


def stuck_list(sheet):
    """A stuck list, or None if there is none.

    What flows to some nodes flows away from them, too. So each entry is in as many
    sums of the arcs that lead to them as in sums of those that lead away; and where
    flows cannot settle, the least of the one is more than the most of the other.
    """
    circulation = circulation_of(sheet)
    nodes = circulation.settled()
    if nodes is None:
        return None
    pairs = []
    for which, (tail, head) in circulation.ends.items():
        if head in nodes and tail not in nodes:
            pairs.append(("least", which))
        if tail in nodes and head not in nodes:
            pairs.append(("most", which))
    return tuple(sorted(pairs))
