"""Circulations that are as cheap as they can be.

Prices are integers for some arcs, for each unit that flows; all other arcs have the
price zero. The bounds of an arc are at most one apart.
"""

from centbook.circulations import way_to
from centbook.pairs import lowest


def cheapest_ways(circulation, prices, lengths):
    """The least prices of the ways that changes of flows can take, and these ways.

    Ways begin at the nodes of lengths, with the prices that these have there. No cycle
    of changes has a price below zero. Returns lengths, and reached as in reached_from.
    """
    lengths = {node: lengths[node] for node in lengths}
    reached = {node: None for node in lengths}
    front = list(lengths)
    while front:
        further = {}
        for node in front:
            for arc, step, other in circulation.moves_from(node):
                length = lengths[node] + step * prices.get(arc, 0)
                if other not in lengths or length < lengths[other]:
                    lengths[other] = length
                    reached[other] = (node, arc, step)
                    further[other] = True
        front = list(further)
    return lengths, reached


def take_price(circulation, prices, arc, price):
    """Gives an arc without a price this price, and makes the circulation as cheap as it can be again.

    Only cycles through the arc itself can have a price below zero then. If one has, the
    cheapest of them is pushed, and all of the arc's flow that can change has changed.
    """
    step = -1 if price > 0 else 1
    if circulation.spare(arc, step) > 0:
        goal, start = circulation.move_ends(arc, step)
        lengths, reached = cheapest_ways(circulation, prices, {start: 0})
        if goal in lengths and lengths[goal] + step * price < 0:
            circulation.push([(arc, step)] + way_to(reached, goal), 1)
    prices[arc] = price


def cheapen(circulation, prices):
    """Makes a settled circulation as cheap as it can be, one price after the other."""
    known = {}
    for arc, price in prices.items():
        take_price(circulation, known, arc, price)


def slopes_of(circulation, prices):
    """By how much a price is above, or below, what its arc is worth to the cheapest circulation.

    Where this is above zero, the flow is the least, where it is below zero, the most. The
    prices of all arcs of a cycle add up to the slopes of all its arcs.
    """
    nodes = list(circulation.leaving) + list(circulation.entering)
    lengths, _ = cheapest_ways(circulation, prices, {node: 0 for node in nodes})
    return {
        arc: prices.get(arc, 0) + lengths[tail] - lengths[head]
        for arc, (tail, head) in circulation.ends.items()
    }


def weights_by(slopes, scale):
    """The ascending (side, sum, weight) of all arcs, which are sums, whose slope, a part of a scale, is not zero."""
    weights = []
    for which, slope in slopes.items():
        if slope != 0:
            weights.append(("least" if slope > 0 else "most", which, lowest(abs(slope), scale)))
    return tuple(sorted(weights))
