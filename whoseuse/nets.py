"""Nets: whole units that go along edges, from nodes that have too much to nodes that have too little."""


class Net:
    """Nodes, edges (tail, head, room, cost) between them, and the units that go along each edge.

    odds tells of each node how much it has too much (below 0: too little); all odds come to 0.
    What goes along the edges never costs more than it must for the odds that are left.
    """

    def __init__(self, odds, edges):
        self.edges = edges
        self.odds = list(odds)
        self.along = [0] * len(edges)
        for at, (tail, head, room, cost) in enumerate(edges):
            if cost < 0:
                self.send(at, room)

    def send(self, at, units):
        """Let so many more units (below 0: less) go along this edge."""
        tail, head, room, cost = self.edges[at]
        self.along[at] = self.along[at] + units
        self.odds[tail] = self.odds[tail] - units
        self.odds[head] = self.odds[head] + units

    def settle(self):
        """Bring all odds to 0, as cheaply as can be; whether this can be done."""
        while not self.is_settled():
            way, via = self.ways(self.rich())
            goals = [node for node, cost in enumerate(way) if cost is not None and self.odds[node] < 0]
            if len(goals) == 0:
                return False
            # Any goal will do: along a cheapest way, what goes stays as cheap as it can be for the odds left.
            self.bring(goals[0], via)
        return True

    def is_settled(self):
        return len(self.rich()) == 0

    def rich(self):
        """The nodes that have too much."""
        return [node for node, odd in enumerate(self.odds) if odd > 0]

    def steps(self):
        """What can change along one edge, as (begin, end, cost of a unit, edge)."""
        found = []
        for at, (tail, head, room, cost) in enumerate(self.edges):
            if self.along[at] < room:
                found.append((tail, head, cost, at))
            if self.along[at] > 0:
                found.append((head, tail, -cost, at))
        return found

    def ways(self, starts):
        """(way, via): what the cheapest way from a start to each node costs, and its last edge.

        Where there is no way, way is None; where it has no edge, via is -1.
        """
        way, via = [None] * len(self.odds), [-1] * len(self.odds)
        for node in starts:
            way[node] = 0
        steps, moved = self.steps(), True
        while moved:
            moved = False
            for begin, end, cost, at in steps:
                if way[begin] is not None and (way[end] is None or way[begin] + cost < way[end]):
                    way[end], via[end], moved = way[begin] + cost, at, True
        return way, via

    def bring(self, goal, via):
        """Send along the way to the goal as much as its edges, its start and the goal let."""
        taken, start = self.route(goal, via)
        units = lesser(self.odds[start], -self.odds[goal])
        for at, onward in taken:
            units = lesser(units, self.edges[at][2] - self.along[at] if onward else self.along[at])
        for at, onward in taken:
            self.send(at, units if onward else -units)

    def route(self, goal, via):
        """(steps, start): the way back from the goal, as (edge, whether it leads from tail to head)."""
        found, node = [], goal
        while via[node] >= 0:
            at = via[node]
            tail, head, room, cost = self.edges[at]
            onward = head == node
            found.append((at, onward))
            node = tail if onward else head
        return found, node

    def heights(self):
        """A height of each node, such that no step that can be taken costs less than it rises.

        Where the odds cannot be settled: -1 for the nodes that have too much and all that they can
        send to, 0 for the others.
        """
        if self.is_settled():
            way, via = self.ways(list(range(len(self.odds))))
            return way
        way, via = self.ways(self.rich())
        return [0 if cost is None else -1 for cost in way]


def lesser(one, other):
    return one if one < other else other
