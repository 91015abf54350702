"""Least cuts: the cheapest nodes that stand on all paths from the leaves of a graph to its goals.

Each node is an edge from its entrance (name, 0) to its exit (name, 1) that carries as much as the node
costs; what the greatest flow fills are the least cuts. All flow begins at SOURCE and ends at SINK,
whose names are those of no node.
"""

SOURCE = ("", 0)
SINK = ("", 1)
UNBOUNDED = 10 ** 9


class Cut:
    """The least cuts of a graph.

    costs is a dict from the nodes to what they cost, steps one from them to the lists of the next nodes;
    leaves and goals are lists of nodes.
    """

    def __init__(self, costs, steps, leaves, goals):
        self._costs = costs
        self._steps = steps
        self._leaves = leaves
        self._left = {SOURCE: {}, SINK: {}}
        for name in costs:
            self._left[(name, 0)] = {}
            self._left[(name, 1)] = {}
        for name in costs:
            self._join((name, 0), (name, 1), costs[name])
            for goal in steps[name]:
                self._join((name, 1), (goal, 0), UNBOUNDED)
        for name in leaves:
            self._join(SOURCE, (name, 0), UNBOUNDED)
        for name in goals:
            self._join((name, 1), SINK, UNBOUNDED)
        self._fill()

    def _join(self, one, other, room):
        # What flows on an edge is the room on the way back.
        self._left[one][other] = room
        self._left[other][one] = 0

    def _fill(self):
        """Let as much flow as there is room for, on one of the shortest paths after another."""
        came = self._joined_to(SOURCE, False)
        while SINK in came:
            edges = []
            at = SINK
            while at != SOURCE:
                edges.append((came[at], at))
                at = came[at]
            room = min([self._left[one][other] for one, other in edges])
            for one, other in edges:
                self._left[one][other] -= room
                self._left[other][one] += room
            came = self._joined_to(SOURCE, False)

    def _joined_to(self, start, back):
        """A dict from all that edges with room lead to from the start, or back to it, to where each was met from."""
        came = {start: None}
        waiting = [start]
        at = 0
        while at < len(waiting):
            one = waiting[at]
            at += 1
            for other in self._left[one]:
                room = self._left[other][one] if back else self._left[one][other]
                if room > 0 and other not in came:
                    came[other] = one
                    waiting.append(other)
        return came

    def cost(self):
        return sum([self._costs[name] for name in self.near_leaves()])

    def near_leaves(self):
        """The sorted list of the cut that stands ahead of all others."""
        met = self._joined_to(SOURCE, False)
        return sorted([name for name in self._costs if (name, 0) in met and (name, 1) not in met])

    def near_goals(self):
        """The sorted list of the cut that stands behind all others."""
        met = self._joined_to(SINK, True)
        return sorted([name for name in self._costs if (name, 1) in met and (name, 0) not in met])

    def paths(self):
        """The lists of nodes along which the flow goes, if each node costs 1."""
        return [self._path(name) for name in self._leaves if self._left[(name, 0)][SOURCE] > 0]

    def _path(self, name):
        path = []
        while name is not None:
            path.append(name)
            name = self._behind(name)
        return path

    def _behind(self, name):
        """The node to which the flow goes from another one, or None at its end."""
        for other in self._steps[name]:
            if self._left[(other, 0)][(name, 1)] > 0:
                return other
        return None
