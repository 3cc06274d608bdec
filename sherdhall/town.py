"""Towns: houses with their zones and weights."""

from sherdhall.errors import NoHouse, NoWeight, Taken
from sherdhall.field import is_between
from sherdhall.names import check_name

HEAVIEST = 1000


def check_weight(weight):
    """Refuse what is no weight."""
    if not is_between(weight, 0, HEAVIEST):
        raise NoWeight(weight)


class Town:
    """Houses by their names, each with a zone and a weight. A town never changes."""

    def __init__(self, rows=()):
        self._houses = {}
        for name, zone, weight in rows:
            check_name(name)
            check_name(zone)
            check_weight(weight)
            if name in self._houses:
                raise Taken(name)
            self._houses[name] = (zone, weight)

    def listed(self):
        """The rows, in the order of their names."""
        return [(name, *self._houses[name]) for name in self.house_names()]

    def house_names(self):
        """The names of all houses, in order."""
        return sorted(self._houses)

    def zone_names(self):
        """The names of all zones, each once, in order."""
        return sorted({zone for zone, _ in self._houses.values()})

    def zone_of(self, name):
        """The zone of a house."""
        self._check_house(name)
        return self._houses[name][0]

    def weight_of(self, name):
        """The weight of a house."""
        self._check_house(name)
        return self._houses[name][1]

    def with_house(self, name, zone, weight):
        """The town with a house more."""
        return Town(self.listed() + [(name, zone, weight)])

    def weighing(self, name, weight):
        """The town with another weight of a house."""
        return self.without(name).with_house(name, self.zone_of(name), weight)

    def without(self, name):
        """The town without a house."""
        self._check_house(name)
        return Town([row for row in self.listed() if row[0] != name])

    def __eq__(self, other):
        return isinstance(other, Town) and self.listed() == other.listed()

    def __len__(self):
        return len(self._houses)

    def __repr__(self):
        return f"Town({self.listed()!r})"

    def _check_house(self, name):
        check_name(name)
        if name not in self._houses:
            raise NoHouse(name)
