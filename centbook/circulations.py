"""Flows in a network, and how they are pushed into their bounds."""


class Circulation:
    """The flows of the arcs of a network; at each node as much flows in as out."""

    def __init__(self):
        self.ends = {}
        self.lows = {}
        self.highs = {}
        self.flows = {}
        self.leaving = {}
        self.entering = {}

    def add_arc(self, arc, ends, bounds, flow):
        """Adds an arc between its ends, the nodes (tail, head), with its bounds (low, high)."""
        self.ends[arc] = ends
        self.lows[arc], self.highs[arc] = bounds
        self.flows[arc] = flow
        self.leaving.setdefault(ends[0], []).append(arc)
        self.entering.setdefault(ends[1], []).append(arc)

    def spare(self, arc, step):
        """By how much the flow of an arc can change in the direction of step; below 0 if it must change back."""
        if step > 0:
            return self.highs[arc] - self.flows[arc]
        return self.flows[arc] - self.lows[arc]

    def moves_from(self, node):
        """The (arc, step, next node) for all arcs at a node whose flow can change that way."""
        moves = []
        for arc in self.leaving.get(node, []):
            if self.spare(arc, 1) > 0:
                moves.append((arc, 1, self.ends[arc][1]))
        for arc in self.entering.get(node, []):
            if self.spare(arc, -1) > 0:
                moves.append((arc, -1, self.ends[arc][0]))
        return moves

    def reached_from(self, start):
        """For each node that is reached from start: the (node, arc, step) that leads to it."""
        reached = {start: None}
        front = [start]
        while front:
            further = []
            for node in front:
                for arc, step, other in self.moves_from(node):
                    if other not in reached:
                        reached[other] = (node, arc, step)
                        further.append(other)
            front = further
        return reached

    def pushed(self, arc, step, most):
        """Pushes the flow of an arc, which cannot change the other way, at most so many times by step along a cycle.

        No other flow leaves its bounds, or gets further out of them. Returns None, or
        if there is no such cycle the nodes that are reached instead.
        """
        goal, start = self.move_ends(arc, step)
        reached = self.reached_from(start)
        if goal not in reached:
            return reached
        way = way_to(reached, goal)
        self.push([(arc, step)] + way, min([most] + [self.spare(other, by) for other, by in way]))
        return None

    def push(self, cycle, many):
        """Changes the flow of each arc of a cycle of (arc, step) many times by its step."""
        for arc, step in cycle:
            self.flows[arc] += step * many

    def move_ends(self, arc, step):
        """The nodes (from, to) between which more flows if the flow of an arc changes by step."""
        tail, head = self.ends[arc]
        return (tail, head) if step > 0 else (head, tail)

    def settled(self):
        """Pushes all flows into their bounds, and returns None.

        If there are no such flows, it returns a dict of nodes: each arc that leads to
        them from elsewhere has its low flow or less, each that leads away its high
        flow or more, and at least one of these flows is out of bounds.
        """
        for arc in self.ends:
            for step in (1, -1):
                while self.spare(arc, -step) < 0:
                    nodes = self.pushed(arc, step, -self.spare(arc, -step))
                    if nodes is not None:
                        return nodes
        return None


def way_to(reached, node):
    """The (arc, step) that lead to a node from where reached begins, the last one first."""
    way = []
    while reached[node] is not None:
        node, arc, step = reached[node]
        way.append((arc, step))
    return way
