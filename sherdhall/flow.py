"""Flows: as much as can be sent from one node to another over arcs with room, as cheaply as can be."""


class Flow:
    """Arcs between nodes, each with room and a cost, and what is sent over them.

    Behind each arc, which has an even number, stands its way back, which has as much room as is sent over it.
    """

    def __init__(self):
        self.arcs = {}
        self.ends = []
        self.rooms = []
        self.costs = []

    def add_arc(self, start, end, room, cost):
        """An arc comes, with its way back; a cost is not below 0."""
        self._add_way(start, end, room, cost)
        self._add_way(end, start, 0, -cost)

    def nodes(self):
        """All nodes at which arcs start or end."""
        return list(self.arcs)

    def sent_from(self, node):
        """The nodes to which something is sent over an arc that starts here, in the order of the arcs."""
        return [self.ends[arc] for arc in self.arcs[node] if arc % 2 == 0 and self.rooms[arc ^ 1] > 0]

    def distances(self, starts):
        """The least cost of a way with room from any of the starts, of each node to which there is one."""
        near = {node: 0 for node in starts}
        waiting = list(starts)
        at = 0
        while at < len(waiting):
            node = waiting[at]
            at += 1
            for arc in self.arcs.get(node, []):
                end = self.ends[arc]
                cost = near[node] + self.costs[arc]
                if self.rooms[arc] > 0 and (end not in near or cost < near[end]):
                    near[end] = cost
                    waiting.append(end)
        return near

    def fill(self, start, end):
        """Send as much as can be from start to end; told is how much."""
        many = 0
        near = self.distances([start])
        while end in near:
            # Ways of the same distance are taken as long as there are any: they leave no cheaper one behind.
            came = self._cheap_ways(start, end, near)
            while end in came:
                self._send(start, end, came)
                many += 1
                came = self._cheap_ways(start, end, near)
            near = self.distances([start])
        return many

    def _add_way(self, start, end, room, cost):
        self.arcs.setdefault(start, []).append(len(self.ends))
        self.ends.append(end)
        self.rooms.append(room)
        self.costs.append(cost)

    def _cheap_ways(self, start, end, near):
        """By nodes, the arc by which each was come to over arcs that cost as much as they bring nearer."""
        came = {start: None}
        waiting = [start]
        while len(waiting) > 0 and end not in came:
            node = waiting.pop()
            for arc in self.arcs[node]:
                other = self.ends[arc]
                if other not in came and self.rooms[arc] > 0 and near[other] == near[node] + self.costs[arc]:
                    came[other] = arc
                    waiting.append(other)
        return came

    def _send(self, start, end, came):
        """Send one from start to end, by the arcs by which each node was come to."""
        node = end
        while node != start:
            arc = came[node]
            self.rooms[arc] -= 1
            self.rooms[arc ^ 1] += 1
            node = self.ends[arc ^ 1]
