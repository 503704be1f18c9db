"""Simple cycles: those in which no node comes twice."""


class WaySearch:
    """Collects ways in a circulation along arcs whose flows can change."""

    def __init__(self, circulation, closed):
        """The ways use none of the closed arcs, which are the keys of a dict."""
        self.circulation = circulation
        self.closed = closed
        self.met = {}
        self.found = []

    def moves_on(self, node):
        """The (arc, step, next node) that a way can take from a node."""
        moves = self.circulation.moves_from(node)
        return [move for move in moves if move[0] not in self.closed and move[2] not in self.met]

    def leads(self, node, goal):
        """Whether a way can go on from a node to the goal."""
        reached = {node: True}
        front = [node]
        while front and goal not in reached:
            further = []
            for one in front:
                for _, _, other in self.moves_on(one):
                    if other not in reached:
                        reached[other] = True
                        further.append(other)
            front = further
        return goal in reached

    def collect(self, node, goal, way):
        """Finds all ways that go on behind this way, from a node to the goal, without a node that was met."""
        if node == goal:
            self.found.append(way)
            return
        self.met[node] = True
        for arc, step, other in self.moves_on(node):
            if self.leads(other, goal):
                self.collect(other, goal, way + [(arc, step)])
        del self.met[node]


def cycles_through(circulation, arc, step, barred):
    """All simple cycles, lists of (arc, step), in which the flow of an arc changes by step, without barred arcs."""
    goal, start = circulation.move_ends(arc, step)
    search = WaySearch(circulation, barred)
    search.collect(start, goal, [(arc, step)])
    return search.found


def one_cycle(leaving):
    """A simple cycle of (node, arc, step); leaving has for some nodes the (arc, step, next node) that lead away."""
    path = []
    places = {}
    node = [one for one in leaving if leaving[one]][0]
    while node not in places:
        places[node] = len(path)
        arc, step, other = leaving[node][0]
        path.append((node, arc, step))
        node = other
    return path[places[node]:]


def divided(circulation, steps):
    """Divides changes of flows into simple cycles, lists of (arc, step).

    steps has 1 or -1 for some arcs; with them as much more flows to each node as away from it.
    """
    leaving = {}
    for arc, step in steps.items():
        start, goal = circulation.move_ends(arc, step)
        leaving.setdefault(start, []).append((arc, step, goal))
    cycles = []
    left = len(steps)
    while left > 0:
        cycle = one_cycle(leaving)
        for node, _, _ in cycle:
            leaving[node].pop(0)
        cycles.append([(arc, step) for _, arc, step in cycle])
        left -= len(cycle)
    return cycles
