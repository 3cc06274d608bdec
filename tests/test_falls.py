"""[53]: a put that fell is never seen, what was sealed is there when it is lit again, and no ticket comes twice."""

import unittest

from sherdhall.care import fold, forget
from sherdhall.errors import Dark, NoTicket, SherdError
from sherdhall.store import Store
from grounds import Grounds
from oracle import HOUSES
from samples import PLAIN, some_numbers
from stores import (FOUR, NAMES, SMALL_SHAPE, TEN, by_every_fuse, drawn_deed, drawn_fault, made, reads_of, seeded,
                    told_of)

ROW = some_numbers(7, 5)


def small(store, name="a", numbers=(5, 6, 7)):
    """Put a row in the small shape."""
    return store.put(name, list(numbers), homes=list(FOUR), shape=SMALL_SHAPE)


def all_of(store):
    """All that a store tells, its reads of all hours too."""
    hours = range(store.held.book.least_hour(), store.held.book.next_hour())
    return told_of(store), reads_of(store, hours)


class Falls(Grounds):

    def cut_everywhere(self, ground, deed, begin, *, told):
        """Cut a put by every fuse: behind it, lit, all or nothing of it is told."""
        before = Store(ground.twin())
        ticket, hour = before.held.book.next_ticket(), before.held.book.next_hour()
        nothing = all_of(before)
        for fuse, cost, store, twin, answer in by_every_fuse(ground, deed):
            whole = fuse is None or fuse >= cost
            if not whole:
                self.assertIsInstance(answer, Dark)
                self.refused(Dark, {"written": 0}, store.kept)
            else:
                self.assertEqual(answer, told)
                due = store, all_of(store)
            twin.lit()
            anew = Store(twin)
            self.assertEqual(anew.open_tickets(), [])
            if whole:
                self.assertEqual((anew, all_of(anew)), due)
                self.assertNotEqual(all_of(anew), nothing)
            else:
                self.assertEqual(all_of(anew), nothing)
                next_ticket = ticket + (1 if fuse >= begin else 0)
                self.assertEqual(anew.begin("zz", [], homes=FOUR, shape=SMALL_SHAPE), next_ticket)
                self.assertEqual(small(anew, "zz"), hour)

    def test_a_put_on_a_new_ground(self):
        ground = made()[0]
        self.cut_everywhere(ground, lambda store: store.put("a", ROW, homes=TEN), 18, told=1)
        self.cut_everywhere(ground, lambda store: small(store, "a", []), 12, told=1)

    def test_a_put_over_an_elder_row(self):
        ground, store = made()
        small(store, "a", [9])
        small(store, "b", [8])
        store.drop("b")
        self.cut_everywhere(ground, lambda store: store.put("a", ROW, homes=HOUSES[2:]), 18, told=4)
        self.cut_everywhere(ground, lambda store: small(store, "b", [1]), 12, told=4)

    def test_a_put_behind_a_fold(self):
        ground, store = made()
        small(store, "a", [9])
        small(store, "a", [8])
        forget(store, 2)
        fold(store)
        self.cut_everywhere(ground, lambda store: small(store, "a", ROW), 12, told=3)

    def test_a_torn_begin_row_is_cut_off(self):
        ground, store = made()
        ground.set_fuse(5)
        with self.assertRaises(Dark):
            small(store)
        ground.lit(fuse=1)
        anew = Store(ground)
        self.assertEqual((ground.fuse_left(), ground.book_rows(0)), (0, [(6, "book", 1, 1, 1, 0), (3, "ready", 1)]))
        ground.set_fuse()
        self.assertEqual(anew.begin("a", [], homes=TEN), 1)

    def test_a_drop_cut_everywhere(self):
        ground, store = made()
        small(store, "a")
        for fuse, cost, _, twin, _ in by_every_fuse(ground, lambda store: store.drop("a")):
            self.assertEqual(cost, 4)
            twin.lit()
            anew = Store(twin)
            self.assertEqual(anew.hours("a"), [(1, 1), (2, None)] if fuse is None or fuse >= 4 else [(1, 1)])

    def test_open_tickets_are_open_no_more_and_never_sealed(self):
        ground, store = made()
        store.begin("a", [1], homes=FOUR, shape=SMALL_SHAPE)
        for place in range(4):
            store.lay(1, place)
        anew = Store(ground)
        self.assertEqual((anew.open_tickets(), anew.kept()), ([], []))
        for asked in (lambda: anew.seal(1), lambda: anew.lay(1, 0), lambda: anew.give_up(1), lambda: anew.about(1)):
            self.refused(NoTicket, {"ticket": 1}, asked)
        fold(anew)
        self.refused(NoTicket, {"ticket": 1}, anew.seal, 1)
        self.assertEqual(anew.begin("a", [1], homes=FOUR, shape=SMALL_SHAPE), 2)

    def test_one_fuse_over_several_deeds(self):
        """Wherever a run of puts and drops is cut, what was told as sealed is there, and nothing else."""
        for fuse in range(0, 190):
            ground, store = made(fuse=fuse)
            due = {"hours": {"a": [], "b": []}, "rows": {}}
            try:
                for turn in range(3):
                    hour = small(store, "a", [turn, 1, turn])
                    due["hours"]["a"].append((hour, 2 * turn + 1))
                    due["rows"][("a", hour)] = [turn, 1, turn]
                    hour = small(store, "b", [turn])
                    due["hours"]["b"].append((hour, 2 * turn + 2))
                    due["rows"][("b", hour)] = [turn]
                    due["hours"]["b"].append((store.drop("b"), None))
            except Dark:
                pass
            ground.lit()
            anew = Store(ground)
            self.assertEqual({name: anew.hours(name) for name in "ab"}, due["hours"])
            self.assertEqual({(name, hour): anew.read(name, at=hour) for name, hour in due["rows"]}, due["rows"])


class Anew(Grounds):

    def test_made_anew_all_is_told_alike(self):
        for seed in range(25):
            draw = seeded(seed)
            ground, store = made()
            for _ in range(20):
                drawn_fault(draw, ground)
                try:
                    drawn_deed(draw, store)[2]()
                except SherdError:
                    pass
                if draw.randrange(4) == 0:
                    due = all_of(store)
                    anew = Store(ground)
                    self.assertTrue(anew == store)
                    self.assertEqual(all_of(anew), due)
                    store = anew

    def test_tickets_and_hours_never_come_twice(self):
        for seed in range(25):
            draw = seeded(seed)
            ground, store = made()
            tickets, hours = [], []
            for _ in range(30):
                try:
                    if draw.randrange(4) == 0:
                        drawn_fault(draw, ground)
                    if draw.randrange(6) == 0:
                        ground.set_fuse(draw.randrange(60))
                    kind = draw.randrange(5)
                    if kind == 0:
                        tickets.append(store.begin("a", [1], homes=FOUR, shape=SMALL_SHAPE))
                    elif kind == 1:
                        hours.append(store.put(draw.choice(NAMES), [1], homes=draw.sample(HOUSES, 10), shape=PLAIN))
                        tickets.append(store.kept()[-1])
                    elif kind == 2:
                        hours.append(store.drop(draw.choice(NAMES)))
                    elif kind == 3:
                        forget(store, draw.randrange(len(hours) + 2))
                    else:
                        fold(store)
                except SherdError:
                    pass
                if ground.is_dark():
                    ground.lit()
                    store = Store(ground)
            self.assertEqual(tickets, sorted(set(tickets)))
            self.assertEqual(hours, sorted(set(hours)))


if __name__ == "__main__":
    unittest.main()
