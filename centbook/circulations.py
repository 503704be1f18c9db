"""Flows in a network, and how they are pushed into their bounds."""


class Circulation:
    """The flows of the arcs of a network; at each node as much flows in as out."""

    def __init__(self):
        self.ends = {}
        self.lows = {}
        self.highs = {}
        self.flows = {}
        self.leaving = {}
        self.entering = {}

    def add_arc(self, arc, ends, bounds, flow):
        """Adds an arc between its ends, the nodes (tail, head), with its bounds (low, high)."""
        self.ends[arc] = ends
        self.lows[arc], self.highs[arc] = bounds
        self.flows[arc] = flow
        self.leaving.setdefault(ends[0], []).append(arc)
        self.entering.setdefault(ends[1], []).append(arc)

    def spare(self, arc, step):
        """By how much the flow of an arc can change in the direction of step; below 0 if it must change back."""
        if step > 0:
            return self.highs[arc] - self.flows[arc]
        return self.flows[arc] - self.lows[arc]

    def moves_from(self, node):
        """The (arc, step, next node) for all arcs at a node whose flow can change that way."""
        moves = []
        for arc in self.leaving.get(node, []):
            if self.spare(arc, 1) > 0:
                moves.append((arc, 1, self.ends[arc][1]))
        for arc in self.entering.get(node, []):
            if self.spare(arc, -1) > 0:
                moves.append((arc, -1, self.ends[arc][0]))
        return moves

    def reached_from(self, start):
        """For each node that is reached from start: the (node, arc, step) that leads to it."""
        reached = {start: None}
        front = [start]
        while front:
            further = []
            for node in front:
                for arc, step, other in self.moves_from(node):
                    if other not in reached:
                        reached[other] = (node, arc, step)
                        further.append(other)
            front = further
        return reached

    def pushed(self, arc, step):
        """Pushes the flow of an arc, which is out of bounds, by step along a cycle.

        No other flow leaves its bounds, or gets further out of them. Returns None, or
        if there is no such cycle the nodes that are reached instead.
        """
        start, goal = self.ends[arc]
        if step > 0:
            start, goal = goal, start
        reached = self.reached_from(start)
        if goal not in reached:
            return reached
        cycle = [(arc, step)]
        many = -self.spare(arc, -step)
        while goal != start:
            goal, other, by = reached[goal]
            cycle.append((other, by))
            many = min(many, self.spare(other, by))
        for other, by in cycle:
            self.flows[other] += by * many
        return None

    def settled(self):
        """Pushes all flows into their bounds, and returns None.

        If there are no such flows, it returns a dict of nodes: each arc that leads to
        them from elsewhere has its low flow or less, each that leads away its high
        flow or more, and at least one of these flows is out of bounds.
        """
        for arc in self.ends:
            while self.spare(arc, -1) < 0 or self.spare(arc, 1) < 0:
                nodes = self.pushed(arc, 1 if self.spare(arc, -1) < 0 else -1)
                if nodes is not None:
                    return nodes
        return None
