"""[89]: at every moment of a plan homes are unlike, in no zone more than told, and rows are read as they were put."""

import itertools
import random
import unittest

from sherdhall.errors import Dark, Down, Lost, NoRoom
from sherdhall.keeper import Keeper
from sherdhall.store import Store
from sherdhall.town import Town
from keepers import NAMES, ROWS, SMALL_SHAPE, in_zones, made_keeper
from oracle import HOUSES
from samples import PLAIN
from stores import places_read


class History:
    """A keeper with drawn rows, and what these rows are."""

    def __init__(self, seed, *, shape=None):
        self.draw = random.Random(seed)
        self.shape = shape or self.draw.choice([PLAIN, SMALL_SHAPE, SMALL_SHAPE, (1, 2, 0), (2, 1, 1)])
        self.zone = self.draw.choice([1, 2, 3, 3])
        self.ground, self.keeper = made_keeper(shape=self.shape, zone=self.zone)
        self.rows = {}
        for _ in range(self.draw.randrange(1, 7)):
            row = [self.draw.randrange(97) for _ in range(self.draw.randrange(20))]
            try:
                self.keeper.put(self.draw.choice(NAMES), row)
                self.rows[self.keeper.store.kept()[-1]] = row
            except NoRoom:
                pass

    def drawn_town(self):
        """The town with some weights and zones otherwise."""
        zones = sorted({where for _, where, _ in ROWS})
        return Town([(house, self.draw.choice([where, where, where, self.draw.choice(zones)]),
                      self.draw.choice([weight, weight, 1, 0, 4])) for house, where, weight in ROWS])

    def plan(self):
        """Let a plan be made in another town, with as few houses down as may be lost; told is whether it has room."""
        self.keeper.use(self.drawn_town())
        for house in self.draw.sample(HOUSES, self.draw.randrange(self.shape[2] + 2)):
            self.ground.down(house)
        try:
            self.keeper.resettle(level=self.draw.choice([None, None, 99]))
        except NoRoom:
            return False
        self.town = self.keeper.usable()
        self.first = {ticket: in_zones(homes, self.town) for ticket, homes in self.keeper.table().items()}
        return True

    def anew(self):
        """Light the ground, and make the keeper anew where it was dark."""
        if self.ground.is_dark():
            self.ground.lit()
            self.keeper = Keeper(self.ground, self.keeper.town, shape=self.shape, zone=self.zone)
        self.ground.set_fuse()

    def row_of(self, ticket):
        """The row of a ticket, as it is read, from a store of its own."""
        store = Store(self.ground.twin())
        name = store.about(ticket)[0]
        return store.read(name, at=[hour for hour, one in store.hours(name) if one == ticket][0])


class Steps(unittest.TestCase):

    def homes_are_right(self, history):
        limit = history.keeper.limit()
        for ticket, homes in history.keeper.table().items():
            self.assertEqual(len(set(homes)), len(homes))
            for where, many in in_zones(homes, history.town).items():
                self.assertTrue(many <= max(limit, history.first[ticket][where]))

    def rows_are_right(self, history, *, lost):
        """All rows are read as they were put, or, where that may be, are lost."""
        for ticket, row in history.rows.items():
            try:
                self.assertEqual(history.row_of(ticket), row)
            except Lost:
                self.assertTrue(lost)

    def test_at_every_step_also_where_it_goes_dark(self):
        done = {"steps": 0, "dark": 0, "plans": 0}
        for seed in range(150):
            history = History(seed)
            if not history.plan():
                continue
            done["plans"] += 1
            while True:
                self.homes_are_right(history)
                self.rows_are_right(history, lost=False)
                if history.draw.randrange(4) == 0:
                    history.ground.set_fuse(history.draw.randrange(16))
                try:
                    if history.keeper.step() is None:
                        break
                    done["steps"] += 1
                except Dark:
                    done["dark"] += 1
                history.anew()
        self.assertTrue(done["steps"] > 200 and min(done.values()) > 20, done)

    def test_with_houses_down_and_lost_between(self):
        done = {"steps": 0, "refused": 0}
        for seed in range(100):
            history = History(seed + 500)
            if not history.plan():
                continue
            for _ in range(len(history.keeper.plan()) + 3):
                kind, house = history.draw.randrange(6), history.draw.choice(HOUSES)
                if kind == 0:
                    history.ground.lose(house)
                elif kind == 1:
                    history.ground.down(house)
                elif kind < 4:
                    history.ground.up(house)
                try:
                    history.keeper.step()
                    done["steps"] += 1
                except (Down, Lost):
                    done["refused"] += 1
                self.homes_are_right(history)
                self.rows_are_right(history, lost=True)
        self.assertTrue(min(done.values()) > 20, done)

    def test_of_any_few_houses_lost(self):
        """Where all cards can be read, a row stays so when as many of its houses as its sums and 1 are lost."""
        tried = 0
        for seed in range(60):
            history = History(seed + 900, shape=(PLAIN, SMALL_SHAPE, (2, 1, 1), (1, 2, 0))[seed % 4])
            if not history.plan():
                continue
            while True:
                for house in HOUSES:
                    history.ground.up(house)
                for ticket, homes in history.keeper.table().items():
                    self.assertEqual(places_read(history.ground, ticket, homes), list(range(len(homes))))
                    few = list(itertools.combinations(homes, history.shape[2] + 1))
                    for lost in history.draw.sample(few, min(3, len(few))):
                        self.lost_and_read(history, ticket, lost)
                        tried += 1
                if history.keeper.step() is None:
                    break
        self.assertTrue(tried > 500, tried)

    def lost_and_read(self, history, ticket, lost):
        ground = history.ground
        history.ground = ground.twin()
        for house in lost:
            history.ground.lose(house)
        self.assertEqual(history.row_of(ticket), history.rows[ticket])
        history.ground = ground

    def test_a_whole_zone_lost(self):
        """A row put by the keeper has in no zone more pieces than may be lost, so any one zone may be."""
        for seed in range(30):
            history = History(seed + 1300)
            ground = history.ground
            for where in {zone for _, zone, _ in ROWS}:
                history.ground = ground.twin()
                for house, zone, _ in ROWS:
                    if zone == where:
                        history.ground.lose(house)
                self.rows_are_right(history, lost=False)
            history.ground = ground


if __name__ == "__main__":
    unittest.main()
