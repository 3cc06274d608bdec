"""The keeper: a store over the houses of a town, where rows are put by scores and settled anew step by step."""

from sherdhall.care import mend
from sherdhall.laying import check_row
from sherdhall.moves import moves_of
from sherdhall.names import check_name
from sherdhall.reading import is_reached
from sherdhall.scores import first_set, rows_in_use
from sherdhall.settling import settle
from sherdhall.shapes import PLAIN, count
from sherdhall.store import Store, check_narrow
from sherdhall.town import Town

ZONE = 3


def is_due(move, table):
    """Whether the table has the move's ticket still, and another house at its place."""
    ticket, place, _, house = move
    return ticket in table and table[ticket][place] != house


class Keeper:
    """A store on a ground, a town, the shape of all rows that are put, and the moves that are planned."""

    def __init__(self, ground, town, *, shape=PLAIN, zone=ZONE):
        check_narrow(shape)
        self.store = Store(ground)
        self.town = town
        self._shape = shape
        self._zone = zone
        self._planned = []

    def limit(self):
        """How many pieces of a row may lie in one zone."""
        _, _, sums = self._shape
        return min(self._zone, sums + 1)

    def use(self, town):
        """Let another town be the keeper's."""
        self.town = town

    def usable(self):
        """The town of the houses that have a weight above 0, are on the ground, and are up."""
        ground = self.store.held.ground
        return Town([row for row in rows_in_use(self.town) if is_reached(ground, row[0])])

    def put(self, name, row):
        """Put a row into the first set of its name; told is the hour."""
        self.store.held.check()
        check_name(name)
        check_row(row)
        pieces = count(shape=self._shape)
        homes = first_set(self.usable(), name, pieces=pieces, zone=self.limit())
        return self.store.put(name, row, homes=homes, shape=self._shape)

    def read(self, name, *, at=None):
        """The row that was sealed under a name, as it was at an hour."""
        return self.store.read(name, at=at)

    def drop(self, name):
        """Let a name have no object any more; told is the hour."""
        return self.store.drop(name)

    def table(self):
        """The homes of all kept tickets, place by place."""
        return {ticket: self.store.about(ticket)[3] for ticket in self.store.kept()}

    def resettle(self, *, level=None, moves=None):
        """Settle the table in the usable houses; the moves to it are the plan from then on."""
        table = self.table()
        town = self.usable()
        settling = settle(town, table, zone=self.limit(), level=level, moves=moves)
        self._planned = moves_of(town, table, settling.settled)
        return settling

    def plan(self):
        """The moves that are left of the plan."""
        return list(self._planned)

    def step(self):
        """Do the first move of the plan; told is this move, or None where there is none."""
        table = self.table()
        self._planned = [move for move in self._planned if is_due(move, table)]
        if len(self._planned) == 0:
            return None
        ticket, place, _, house = self._planned[0]
        mend(self.store, ticket, place, into=house)
        return self._planned.pop(0)
