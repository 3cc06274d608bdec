"""Papers: numbers that show that no table within a level has fewer moves."""

from sherdhall.scores import rows_in_use, zones_in_use


def without_noughts(numbers):
    """The numbers that are not 0, by their keys."""
    return {key: numbers[key] for key in numbers if numbers[key] != 0}


class Paper:
    """Numbers for tickets, for tickets in zones, and for houses; what is not there is 0."""

    def __init__(self, for_tickets, for_zones, for_houses):
        self.for_tickets = {key: for_tickets[key] for key in for_tickets}
        self.for_zones = {key: for_zones[key] for key in for_zones}
        self.for_houses = {key: for_houses[key] for key in for_houses}

    def __eq__(self, other):
        return (isinstance(other, Paper)
                and without_noughts(self.for_tickets) == without_noughts(other.for_tickets)
                and without_noughts(self.for_zones) == without_noughts(other.for_zones)
                and without_noughts(self.for_houses) == without_noughts(other.for_houses))


def worth_of_ticket(town, ticket, homes, paper, zone):
    """What a ticket with these homes gives to a paper's worth."""
    own = paper.for_tickets.get(ticket, 0)
    by_zones = {where: paper.for_zones.get((ticket, where), 0) for where in zones_in_use(town)}
    total = -own * len(homes)
    for number in by_zones.values():
        total += zone * min(0, own - number)
    for house, where, _ in rows_in_use(town):
        cost = 0 if house in homes else 1
        total += min(0, cost + by_zones[where] - paper.for_houses.get(house, 0))
    return total


def worth(town, table, paper, *, zone, level):
    """A number that is never above the moves to any table within the level."""
    total = 0
    for house, _, weight in rows_in_use(town):
        total += level * weight * min(0, paper.for_houses.get(house, 0))
    for ticket, homes in table.items():
        total += worth_of_ticket(town, ticket, homes, paper, zone)
    return total
