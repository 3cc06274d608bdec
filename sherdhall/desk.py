"""The desk: a ground with a keeper on it, told what to do by orders."""

from sherdhall.answers import answer
from sherdhall.errors import SherdError, Stopped
from sherdhall.ground import Ground
from sherdhall.keeper import ZONE, Keeper
from sherdhall.orders import FORMS, own
from sherdhall.shapes import PLAIN
from sherdhall.town import Town
from sherdhall.turns import Log, Turn


class Desk:
    """A ground and a keeper on it, at first without houses, and the trail of all orders."""

    def __init__(self, *, shape=PLAIN, zone=ZONE):
        self.shape = shape
        self.zone = zone
        self.ground = Ground([])
        self.keeper = Keeper(self.ground, Town(), shape=shape, zone=zone)
        self._log = Log()

    def say(self, row):
        """Do an order; told is its answer."""
        with Turn(self._log):
            return answer(self, row)

    def say_all(self, orders):
        """Do several orders, one after the other, till one is refused; told are their answers."""
        with Turn(self._log):
            return [self._say_one(number, row) for number, row in enumerate(orders)]

    def is_open(self):
        """Whether no order is being done."""
        return self._log.deep == 0

    def depth(self):
        """How deep the desk is in its orders: 0, 1, or 2 within one of several."""
        return self._log.deep

    def trail(self):
        """Tuples of "in" or "out" and the depth, for each order and each list of orders."""
        return list(self._log.rows)

    def order_words(self):
        """The first words of all orders, by their letters."""
        return sorted(FORMS)

    def _say_one(self, number, row):
        try:
            return self.say(row)
        except SherdError as refusal:
            raise Stopped(number, own(row)) from refusal
