"""[59] and [4], over drawn histories of deeds, faults, falls and openings: what is read is what was sealed."""

import unittest

from sherdhall.errors import Dark, Lost, NoObject, SherdError
from sherdhall.mending import is_ghost
from sherdhall.scrub import scrub
from sherdhall.store import Store
from grounds import seen
import oracle
from stores import (NAMES, can_be_read, drawn_deed, drawn_fault, made, needed_of, places_read, readable_objects,
                    right_rows, seeded, why_not)


class History:
    """What was told as sealed and dropped, kept beside a store that is made anew whenever its ground went dark."""

    def __init__(self, seed):
        self.draw = seeded(seed)
        self.ground, self.store = made()
        self.rows = {}
        self.past = {name: [(0, None)] for name in NAMES}
        self.floor = 0
        self.hour = 1

    def deed(self):
        """Do a drawn deed, perhaps with a fuse that cuts it; told is whether it was done."""
        word, handed, asked = drawn_deed(self.draw, self.store)
        if self.draw.randrange(4) == 0:
            self.ground.set_fuse(self.draw.randrange(90))
        try:
            told = asked()
        except SherdError:
            return False
        finally:
            if self.ground.is_dark():
                self.ground.lit()
                self.store = Store(self.ground)
            self.ground.set_fuse()
        self.note(word, handed, told)
        return True

    def note(self, word, handed, told):
        """Keep what a deed told."""
        if word == "put":
            self.rows[(handed[0], told)] = handed[1]
            self.past[handed[0]].append((told, handed[1]))
        if word == "drop":
            self.past[handed[0]].append((told, None))
        if word in ("put", "drop"):
            assert told == self.hour
            self.hour += 1
        if word == "forget":
            self.floor = max(self.floor, handed[0])

    def row_at(self, name, hour):
        """The row that was last sealed under the name at the hour, or None."""
        return [row for sealed, row in self.past[name] if sealed <= hour][-1]


class Histories(unittest.TestCase):

    def test_what_could_be_read_ahead_can_be_read_behind(self):
        done = {True: 0, False: 0}
        for seed in range(60):
            history = History(seed)
            for _ in range(25):
                if history.draw.randrange(3) == 0:
                    drawn_fault(history.draw, history.ground)
                before = readable_objects(history.ground)
                done[history.deed()] += 1
                rows = right_rows(history.ground)
                self.assertTrue(before & set(oracle.kept(rows)) <= readable_objects(history.ground))
                for ticket in oracle.kept(rows):
                    homes = oracle.about(rows, ticket)[3]
                    self.assertEqual(len(homes), len(set(homes)))
        self.assertTrue(min(done.values()) > 200, done)

    def test_each_read_tells_the_very_row_or_is_refused_as_lost(self):
        told = {"row": 0, "lost": 0, "none": 0}
        for seed in range(60):
            history = History(seed + 1000)
            for turn in range(24):
                for _ in range(history.draw.randrange(4)):
                    drawn_fault(history.draw, history.ground)
                history.deed()
                if turn % 6 == 5:
                    self.all_reads(history, told)
        self.assertTrue(min(told.values()) > 100, told)

    def all_reads(self, history, told):
        store = history.store
        before = seen(history.ground)
        for name in NAMES:
            for hour in range(history.floor, history.hour):
                due = history.row_at(name, hour)
                if due is None:
                    told["none"] += 1
                    with self.assertRaises(NoObject):
                        store.read(name, at=hour)
                    continue
                try:
                    self.assertEqual(store.read(name, at=hour), due)
                    self.assertIsNone(store.why_lost(name, at=hour))
                    told["row"] += 1
                except Lost as refusal:
                    told["lost"] += 1
                    self.ghost_is_shown(history, name, hour, refusal)
        self.assertEqual(scrub(store), [
            (ticket, place, home, why_not(history.ground, ticket, place, home))
            for ticket in store.kept() for place, home in enumerate(store.about(ticket)[3])
            if why_not(history.ground, ticket, place, home) is not None])
        self.assertEqual(seen(history.ground), before)

    def ghost_is_shown(self, history, name, hour, refusal):
        about = history.store.about(refusal.ticket)
        _, length, shape, homes = about
        read = places_read(history.ground, refusal.ticket, homes)
        self.assertFalse(can_be_read(history.ground, refusal.ticket, about))
        self.assertEqual((refusal.name, refusal.lacking),
                         (name, [place for place in range(len(homes)) if place not in read]))
        place, ghost = history.store.why_lost(name, at=hour)
        self.assertIn(place, needed_of(length, shape))
        self.assertTrue(is_ghost(ghost, read, place, shape=shape))

    def test_every_deed_cut_at_every_member(self):
        """Of some histories each deed is cut by every fuse: behind it, lit, all that could be read still can."""
        for seed in range(12):
            history = History(seed + 2000)
            for _ in range(10):
                if history.draw.randrange(3) == 0:
                    drawn_fault(history.draw, history.ground)
                self.cut_everywhere(history)
                history.deed()

    def cut_everywhere(self, history):
        before = readable_objects(history.ground)
        seed = history.draw.randrange(10 ** 6)
        fuse, is_cut = 0, True
        while is_cut:
            twin = history.ground.twin()
            store = Store(twin)
            asked = drawn_deed(seeded(seed), store)[2]
            twin.set_fuse(fuse)
            try:
                asked()
            except Dark:
                pass
            except SherdError:
                is_cut = False
            is_cut = is_cut and twin.is_dark()
            twin.lit()
            anew = Store(twin)
            kept = set(anew.kept())
            self.assertTrue(before & kept <= readable_objects(twin))
            self.assertTrue(all(len(set(anew.about(ticket)[3])) == len(anew.about(ticket)[3]) for ticket in kept))
            fuse += 1 if fuse < 40 else 7


if __name__ == "__main__":
    unittest.main()
