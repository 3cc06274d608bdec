"""[49] and [50]: what is read of a row, by which cards, and what shows that it is lost."""

import unittest

from sherdhall.cards import cells_of
from sherdhall.errors import Dark, Lost, NoHour, NoName, NoObject
from sherdhall.mending import is_ghost
from sherdhall.store import Store
from grounds import NO_NAMES, Grounds, seen
from oracle import HOUSES
from samples import PLAIN, data_of, kinds, lists_of, some_numbers, told_places
from stores import FOUR, SMALL_SHAPE, TEN, drawn_fault, made, needed_of, places_read, seeded

SHAPES_READ = [SMALL_SHAPE, PLAIN, (1, 1, 0), (1, 4, 2), (4, 1, 2), (2, 4, 0), (3, 2, 1), (2, 1, 1)]


class Reads(Grounds):

    def held_against_what_can_be_read(self, ground, store, name, row, *, at=None):
        """Read the row, which may be lost, and hold all that is told of it against what its places tell."""
        before = seen(ground)
        ticket = [told for hour, told in store.hours(name) if at is None or hour <= at][-1]
        _, _, shape, homes = store.about(ticket)
        read = places_read(ground, ticket, homes)
        needed = needed_of(len(row), shape)
        is_told = all(place in told_places(tuple(read), shape) for place in needed)
        if is_told:
            told = store.read(name, at=at)
            self.assertIs(type(told), list)
            self.assertEqual(told, row)
            self.used_tells(store.read_by(name, at=at), row, read, needed, shape)
            self.assertIsNone(store.why_lost(name, at=at))
        else:
            lacking = [place for place in range(len(homes)) if place not in read]
            for asked in (store.read, store.read_by):
                self.refused(Lost, {"name": name, "ticket": ticket, "lacking": lacking}, asked, name, at=at)
            self.ghost_shows(ground, ticket, store.why_lost(name, at=at), homes, read, needed, shape)
        self.assertEqual(seen(ground), before)
        return is_told

    def used_tells(self, told, row, read, needed, shape):
        self.assertIs(type(told), tuple)
        self.assertEqual(told[0], row)
        used = told[1]
        self.assertIs(type(used), list)
        self.assertEqual(used, sorted(set(used)))
        self.assertTrue(set(used) <= set(read))
        self.assertTrue(set(needed) <= set(told_places(tuple(used), shape)))

    def ghost_shows(self, ground, ticket, told, homes, read, needed, shape):
        self.assertIs(type(told), tuple)
        place, ghost = told
        self.assertIn(place, needed)
        self.assertIs(type(ghost), list)
        self.assertTrue(is_ghost(ghost, read, place, shape=shape))
        for other in read:
            cells = cells_of(ground.card(homes[other], (ticket, other)))
            self.assertEqual([(cells[0] + ghost[other]) % 97] + cells[1:], cells)


class Lengths(Reads):

    def test_rows_of_none_to_sixty_numbers(self):
        for shape in SHAPES_READ:
            ground, store = made()
            homes = HOUSES[:len(kinds(shape))]
            rows = [some_numbers(many, many + 1) for many in range(61)]
            for hour, row in enumerate(rows, 1):
                self.assertEqual(store.put("a", row, homes=homes, shape=shape), hour)
                self.assertTrue(self.held_against_what_can_be_read(ground, store, "a", row))
            for hour, row in enumerate(rows, 1):
                self.assertEqual(store.read("a", at=hour), row)

    def test_only_the_data_places_that_hold_a_number_count(self):
        for many in range(8):
            row = some_numbers(many, 3)
            for place in range(10):
                ground, store = made()
                store.put("a", row, homes=TEN)
                for other in range(10):
                    if other != place:
                        ground.take(TEN[other], (1, other))
                due = set(needed_of(many, PLAIN)) <= {place}
                self.assertEqual(self.held_against_what_can_be_read(ground, store, "a", row), due)

    def test_the_empty_row_always(self):
        for shape in SHAPES_READ:
            ground, store = made()
            store.put("a", [], homes=HOUSES[:len(kinds(shape))], shape=shape)
            for name in HOUSES:
                ground.lose(name)
                ground.down(name)
            self.assertEqual((store.read("a"), store.read_by("a"), store.why_lost("a")), ([], ([], []), None))


class Losses(Reads):

    def test_every_set_of_lost_cards_of_a_small_shape(self):
        for shape in (SMALL_SHAPE, (1, 1, 0), (2, 1, 1)):
            homes = HOUSES[:len(kinds(shape))]
            for many in (0, 1, 2, 3, 5):
                row = some_numbers(many, 9)
                base, store = made()
                store.put("a", row, homes=homes, shape=shape)
                for lost in lists_of(range(len(homes)), 0, len(homes)):
                    for place in lost:
                        base.down(homes[place])
                    self.held_against_what_can_be_read(base, store, "a", row)
                    for place in lost:
                        base.up(homes[place])

    def test_three_lost_of_plain_and_more(self):
        ground, store = made()
        row = some_numbers(14, 2)
        store.put("a", row, homes=TEN)
        told = [0, 0]
        for lost in lists_of(range(10), 0, 5)[::2]:
            for place in lost:
                ground.down(TEN[place])
            read = self.held_against_what_can_be_read(ground, store, "a", row)
            self.assertTrue(read or len(lost) > 3)
            told[read] += 1
            for place in lost:
                ground.up(TEN[place])
        self.assertTrue(min(told) > 20)

    def test_each_way_in_which_a_card_can_not_be_read(self):
        """Without the places 2, 8 and 9 the row is just told: of it all that is left counts."""
        row = some_numbers(6, 4)
        ways = [lambda ground: ground.down("ha"), lambda ground: ground.lose("ha"),
                lambda ground: ground.take("ha", (1, 0)), lambda ground: ground.change("ha", (1, 0), at=0, by=1),
                lambda ground: ground.exchange("ha", (1, 0), "hb", (1, 1)), torn]
        for way in ways:
            ground, store = made()
            store.put("a", row, homes=TEN)
            for place in (2, 8, 9):
                ground.lose(TEN[place])
            self.assertTrue(self.held_against_what_can_be_read(ground, store, "a", row))
            way(ground)
            self.assertFalse(self.held_against_what_can_be_read(ground, Store(ground), "a", row))

    def test_drawn_faults(self):
        told = [0, 0]
        for seed in range(80):
            draw = seeded(seed)
            ground, store = made()
            rows = []
            for _ in range(4):
                shape = draw.choice(SHAPES_READ)
                rows.append([draw.randrange(97) for _ in range(draw.randrange(61))])
                store.put("a", rows[-1], homes=draw.sample(HOUSES, len(kinds(shape))), shape=shape)
            for _ in range(12):
                drawn_fault(draw, ground)
                for hour, row in enumerate(rows, 1):
                    told[self.held_against_what_can_be_read(ground, store, "a", row, at=hour)] += 1
        self.assertTrue(min(told) > 300, told)

    def test_the_ghost_is_just_as_likely(self):
        """The row with the ghost's numbers added to the first cells has the same cards where they can be read."""
        row = some_numbers(9, 7)
        ground, store = made()
        store.put("a", row, homes=TEN)
        for place in (0, 2, 3, 8):
            ground.lose(TEN[place])
        place, ghost = store.why_lost("a")
        other = row + [0] * 3
        for at, data in enumerate(data_of(PLAIN)):
            other[at] = (other[at] + ghost[data]) % 97
        self.assertNotEqual(other[:9], row)
        twin, second = made()
        second.put("a", other, homes=TEN)
        for home in TEN:
            for key in ground.drawers(home):
                self.assertEqual(twin.card(home, key), ground.card(home, key))


def torn(ground):
    """Let the card of ticket 1 in the first house be torn."""
    card = ground.card("ha", (1, 0))
    ground.set_fuse(len(card) - 1)
    try:
        ground.lay_card("ha", card)
    except Dark:
        ground.lit()


class Hours(Reads):

    def test_all_hours(self):
        ground, store = made()
        rows = [some_numbers(many, many) for many in (4, 0, 9)]
        store.put("a", rows[0], homes=TEN)
        store.put("b", rows[1], homes=FOUR, shape=SMALL_SHAPE)
        store.drop("a")
        store.put("a", rows[2], homes=TEN)
        due = {"a": [None, rows[0], rows[0], None, rows[2]], "b": [None, None, rows[1], rows[1], rows[1]]}
        for name, told in due.items():
            for hour, row in enumerate(told):
                for asked in (store.read, store.read_by, store.why_lost):
                    if row is None:
                        self.refused(NoObject, {"name": name}, asked, name, at=hour)
                if row is not None:
                    self.held_against_what_can_be_read(ground, store, name, row, at=hour)
            self.assertEqual(store.read(name), told[-1])
        store.drop("b")
        self.refused(NoObject, {"name": "b"}, store.read, "b")
        self.assertEqual(store.read("b", at=4), [])

    def test_no_name_then_no_hour_then_no_object(self):
        ground, store = made()
        store.put("a", [1], homes=TEN)
        for asked in (store.read, store.read_by, store.why_lost):
            for name in NO_NAMES:
                self.refused(NoName, {"name": name}, asked, name, at=99)
                self.refused(NoName, {"name": name}, asked, name)
            for hour in (-1, 2, 10 ** 59):
                self.refused(NoHour, {"hour": hour}, asked, "zz", at=hour)
            self.refused(NoObject, {"name": "zz"}, asked, "zz", at=1)
            self.refused(NoObject, {"name": "a"}, asked, "a", at=0)
            self.refused(NoObject, {"name": "zz"}, asked, "zz")

    def test_told_lists_are_the_askers_own(self):
        ground, store = made()
        row = some_numbers(6, 1)
        store.put("a", row, homes=TEN)
        store.read("a").clear()
        store.read_by("a")[0].clear()
        store.read_by("a")[1].clear()
        self.assertEqual(store.read("a"), row)
        self.used_tells(store.read_by("a"), row, list(range(10)), data_of(PLAIN), PLAIN)
        for home in TEN[:5]:
            ground.lose(home)
        first = store.why_lost("a")
        store.why_lost("a")[1].clear()
        self.assertEqual(store.why_lost("a"), first)
        with self.assertRaises(Lost) as caught:
            store.read("a")
        caught.exception.lacking.clear()
        self.refused(Lost, {"name": "a", "ticket": 1, "lacking": [0, 1, 2, 3, 4]}, store.read, "a")


if __name__ == "__main__":
    unittest.main()
