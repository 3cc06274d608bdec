"""Trials: the fewest moves of a table to one within a level, and the numbers that show it."""

from sherdhall.flow import Flow
from sherdhall.homes import many_moves, paired, pieces_in
from sherdhall.papers import Paper
from sherdhall.scores import rows_in_use, zones_in_use

# The nodes from which and to which pieces are sent; between them stand tickets, their zones, and houses.
START = "+"
END = "-"


def flow_for(town, table, zone, level):
    """The arcs on which pieces are sent from tickets over zones to houses, each house that is new costing 1."""
    flow = Flow()
    rows = rows_in_use(town)
    for house, _, weight in rows:
        flow.add_arc(house, END, level * weight, 0)
    for ticket in sorted(table):
        flow.add_arc(START, ticket, len(table[ticket]), 0)
        for where in zones_in_use(town):
            flow.add_arc(ticket, (ticket, where), zone, 0)
        for house, where, _ in rows:
            flow.add_arc((ticket, where), house, 1, 0 if house in table[ticket] else 1)
    return flow


class Trial:
    """What comes of a table where each house is to be within a level.

    settled is a table within it with the fewest moves, many how many these are; both are None where there is none.
    """

    def __init__(self, town, table, *, zone, level):
        self.town = town
        self.old = table
        self.level = level
        self.flow = flow_for(town, table, zone, level)
        self.settled = None
        self.many = None
        if self.flow.fill(START, END) == pieces_in(table):
            self.settled = {ticket: self._houses_of(ticket) for ticket in sorted(table)}
            self.many = many_moves(table, self.settled)

    def is_done(self, most):
        """Whether there is a table within the level with at most so many moves."""
        return self.many is not None and self.many <= most

    def paper_above(self, most):
        """A paper whose worth is just the moves; where no table is within the level, one whose worth is above most."""
        if self.many is None:
            # What is still come to has more pieces to send than it has room: each number more counts that once more.
            return self._paper_of({node: -1 - most for node in self.flow.distances([START])})
        near = self.flow.distances(self.flow.nodes())
        return self._paper_of({node: near[node] - near.get(END, 0) for node in near})

    def _houses_of(self, ticket):
        """The houses that the ticket's pieces are sent to, paired with those that it had."""
        flow = self.flow
        houses = [house for where in flow.sent_from(ticket) for house in flow.sent_from(where)]
        return paired(self.town, self.old[ticket], houses)

    def _paper_of(self, numbers):
        """The paper with these numbers, by nodes."""
        zones = [(ticket, where) for ticket in self.old for where in zones_in_use(self.town)]
        houses = [house for house, _, _ in rows_in_use(self.town)]
        return Paper(
            {ticket: numbers.get(ticket, 0) for ticket in self.old},
            {node: numbers.get(node, 0) for node in zones},
            {house: numbers.get(house, 0) for house in houses})
