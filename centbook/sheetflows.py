"""The cents of a sheet's sums as the flows of a circulation."""

from centbook.circulations import Circulation
from centbook.networks import ends_of
from centbook.pairs import rounded_down
from centbook.sums import cents_of, fixed_of, least_of, most_of, sums_of


def circulation_of(sheet, booking):
    """The circulation of a sheet whose flows are those of a booking, close or not."""
    circulation = Circulation()
    for which in sums_of(sheet):
        fixed = fixed_of(sheet, which)
        bounds = (least_of(sheet, which) - fixed, most_of(sheet, which) - fixed)
        flow = cents_of(sheet, booking, which) - fixed
        circulation.add_arc(which, ends_of(sheet, which), bounds, flow)
    return circulation


def least_circulation(sheet):
    """The circulation of a sheet that begins with the least cents of each entry."""
    booking = [[rounded_down(charge) for charge in day] for day in sheet[2]]
    return circulation_of(sheet, booking)


def booking_in(sheet, circulation):
    """The booking whose cents are the flows of the circulation of a sheet."""
    state, _, days = sheet
    flows = circulation.flows
    return tuple([tuple([flows["entry", d, i] for i in range(len(state))]) for d in range(len(days))])


def pairs_around(circulation, nodes):
    """The pairs (side, sum) of the arcs that lead to some nodes, and of those that lead away, ascending.

    What flows to the nodes flows away from them, too. So each entry is in as many sums
    of the arcs that lead to them as in sums of those that lead away.
    """
    pairs = []
    for which, (tail, head) in circulation.ends.items():
        if head in nodes and tail not in nodes:
            pairs.append(("least", which))
        if tail in nodes and head not in nodes:
            pairs.append(("most", which))
    return tuple(sorted(pairs))
