"""[51] and [52]: what a store tells of hours, names and tickets, its entries, and when two stores are equal."""

import unittest

from sherdhall.care import fold, forget, mend, sweep
from sherdhall.errors import Dark, NoHour, NoName, NoTicket, SherdError, Stale
from sherdhall.ground import Ground
from sherdhall.scrub import scrub
from sherdhall.store import Store
from grounds import NO_NAMES, Grounds, gone_dark
from oracle import HOUSES
from samples import NO_WHOLES, PLAIN
from stores import FOUR, SMALL_SHAPE, TEN, WORDS, made


def small(store, name="a", numbers=(5, 6, 7)):
    """Put a row in the small shape."""
    return store.put(name, list(numbers), homes=list(FOUR), shape=SMALL_SHAPE)


def with_past():
    """A ground and a store: a sealed at 1 and 4 and dropped at 3, b sealed at 2 and dropped at 5, ticket 4 open."""
    ground, store = made()
    small(store, "a", [1])
    store.put("b", [2, 3], homes=list(TEN))
    store.drop("a")
    store.begin("c", [9], homes=list(FOUR), shape=SMALL_SHAPE)
    small(store, "a", [4])
    store.drop("b")
    return ground, store


class Told(Grounds):

    def test_hours(self):
        ground, store = with_past()
        due = {"a": [(1, 1), (3, None), (4, 4)], "b": [(2, 2), (5, None)], "c": [], "zz": []}
        self.assertEqual({name: store.hours(name) for name in due}, due)
        for name in NO_NAMES:
            self.refused(NoName, {"name": name}, store.hours, name)
        forget(store, 2)
        self.assertEqual(store.hours("a"), [(1, 1), (3, None), (4, 4)])
        forget(store, 3)
        self.assertEqual((store.hours("a"), store.hours("b")), ([(4, 4)], [(2, 2), (5, None)]))
        forget(store, 5)
        self.assertEqual((store.hours("a"), store.hours("b")), ([(4, 4)], []))

    def test_names(self):
        ground, store = with_past()
        self.assertEqual([store.names(at=hour) for hour in range(6)],
                         [[], ["a"], ["a", "b"], ["b"], ["a", "b"], ["a"]])
        self.assertEqual(store.names(), ["a"])
        for hour in (-1, 6, 10 ** 59):
            self.refused(NoHour, {"hour": hour}, store.names, at=hour)
        forget(store, 3)
        self.refused(NoHour, {"hour": 2}, store.names, at=2)
        self.assertEqual(store.names(at=3), ["b"])

    def test_kept_and_open(self):
        ground, store = with_past()
        self.assertEqual((store.kept(), store.open_tickets()), ([1, 2, 4], [3]))
        forget(store, 3)
        self.assertEqual((store.kept(), store.open_tickets()), ([2, 4], [3]))
        store.begin("c", [9], homes=list(FOUR), shape=SMALL_SHAPE)
        store.give_up(3)
        self.assertEqual((store.kept(), store.open_tickets()), ([2, 4], [5]))

    def test_about(self):
        ground, store = with_past()
        self.assertEqual(store.about(1), ("a", 1, SMALL_SHAPE, FOUR))
        self.assertEqual(store.about(2), ("b", 2, PLAIN, TEN))
        self.assertEqual(store.about(3), ("c", 1, SMALL_SHAPE, FOUR))
        mend(store, 2, 3, into="hl")
        self.assertEqual(store.about(2), ("b", 2, PLAIN, TEN[:3] + ["hl"] + TEN[4:]))
        forget(store, 3)
        store.give_up(3)
        for ticket in (0, 1, 3, 5, 10 ** 59):
            self.refused(NoTicket, {"ticket": ticket}, store.about, ticket)

    def test_told_lists_are_the_askers_own(self):
        ground, store = with_past()
        for asked in (lambda: store.hours("a"), lambda: store.hours("zz"), store.names, lambda: store.names(at=0),
                      store.kept, store.open_tickets, lambda: store.about(2)[3], lambda: store.about(3)[3],
                      store.entries, lambda: scrub(store)):
            due = list(asked())
            told = asked()
            self.assertIs(type(told), list)
            told.append("hz")
            told.reverse()
            self.assertEqual(asked(), due)
        self.assertEqual(store.read("a"), [4])


class Entries(Grounds):

    def asked_of(self, store):
        """Each deed, twice: so that it is done, where it can be, and so that it is refused."""
        return {
            "begin": [lambda: store.begin("b", [1], homes=FOUR, shape=SMALL_SHAPE), lambda: store.begin("B", 1, homes=1)],
            "lay": [lambda: store.lay(4, 0), lambda: store.lay(99, 0), lambda: store.lay(4, None)],
            "seal": [lambda: store.seal(5), lambda: store.seal(4), lambda: store.seal(99)],
            "give_up": [lambda: store.give_up(4), lambda: store.give_up(4)],
            "put": [lambda: small(store, "b"), lambda: small(store, "B"), lambda: store.put("b", [1], homes=[])],
            "drop": [lambda: store.drop("b"), lambda: store.drop("zz")],
            "mend": [lambda: mend(store, 1, 0), lambda: mend(store, 1, 0, into="hl"), lambda: mend(store, 99, 0),
                     lambda: mend(store, 1, 0, into="hx")],
            "sweep": [lambda: sweep(store)],
            "forget": [lambda: forget(store, 0), lambda: forget(store, 1), lambda: forget(store, 99)],
            "fold": [lambda: fold(store)],
        }

    def follow(self, store, word, asked):
        """Ask, and hold the entries against what they were ahead; told is whether it was refused."""
        before = store.entries()
        refused = False
        try:
            asked()
        except SherdError:
            refused = True
        self.assertIs(store.is_busy(), False)
        self.assertEqual(store.entries(), before + [("in", word), ("out", word)])
        return refused

    def test_each_deed_once_whatever_it_is_refused_with(self):
        ground, store = made()
        self.assertEqual((store.entries(), store.is_busy()), ([], False))
        for _ in range(3):
            small(store)
        store.begin("b", [1], homes=FOUR, shape=SMALL_SHAPE)
        store.begin("b", [1], homes=FOUR, shape=SMALL_SHAPE)
        for place in range(4):
            store.lay(5, place)
        told = [self.follow(store, word, asked) for word, deeds in self.asked_of(store).items() for asked in deeds]
        self.assertEqual(sorted(self.asked_of(store)), sorted(WORDS))
        self.assertTrue(told.count(True) >= 10 and told.count(False) >= 10)

    def test_behind_stale_and_dark(self):
        for due in (Dark, Stale):
            ground, store = made()
            small(store)
            if due is Dark:
                gone_dark(ground)
            else:
                Store(ground)
            for word, deeds in self.asked_of(store).items():
                for asked in deeds:
                    with self.assertRaises(due):
                        asked()
                    self.assertTrue(self.follow(store, word, asked))

    def test_behind_a_deed_that_goes_dark_in_its_middle(self):
        base, store = made()
        small(store)
        small(store)
        deeds = {"put": small, "drop": lambda store: store.drop("a"), "fold": fold,
                 "forget": lambda store: forget(store, 1), "mend": lambda store: mend(store, 1, 0, into="hl"),
                 "begin": lambda store: store.begin("b", [], homes=TEN)}
        for word, deed in deeds.items():
            ground = base.twin()
            other = Store(ground)
            ground.set_fuse(2)
            self.assertTrue(self.follow(other, word, lambda: deed(other)))
            self.assertTrue(ground.is_dark())

    def test_questions_are_no_deeds(self):
        ground, store = with_past()
        before = store.entries()
        for asked in (lambda: store.read("a"), lambda: store.read_by("a"), lambda: store.why_lost("a"),
                      lambda: store.hours("a"), store.names, store.kept, store.open_tickets, lambda: store.about(1),
                      lambda: scrub(store), lambda: len(store), lambda: repr(store), lambda: store == store):
            asked()
        self.assertEqual(store.entries(), before)

    def test_it_is_busy_within_a_deed(self):
        seen = []

        class Watched(Ground):

            def strike(self, which, row):
                seen.append((store.is_busy(), store.entries()[-1]))
                Ground.strike(self, which, row)

        store = Store(Watched(HOUSES))
        small(store)
        self.assertEqual(seen, [(True, ("in", "put"))] * 2)
        self.assertIs(store.is_busy(), False)


class Equal(Grounds):

    def test_stores_with_the_same_past(self):
        (_, one), (_, other) = with_past(), with_past()
        self.assertTrue(one == other)
        self.assertFalse(one != other)
        other.lay(3, 0)
        other.give_up(3)
        self.assertTrue(one == other)
        mend(other, 1, 0)
        sweep(other)
        fold(other)
        self.assertTrue(one == other)

    def test_made_anew(self):
        ground, store = with_past()
        twin = ground.twin()
        self.assertTrue(Store(twin) == store)
        self.assertTrue(Store(ground) == store)

    def test_a_name_of_which_no_hour_is_told_does_not_count(self):
        ground, store = with_past()
        forget(store, 5)
        self.assertEqual(store.hours("b"), [])
        other = Store(ground.twin())
        fold(other)
        self.assertTrue(other == store)
        self.assertTrue(store == other)

    def test_rows_and_ground_do_not_count(self):
        one, other = made()[1], made(houses=FOUR)[1]
        small(one, numbers=[1, 2])
        small(other, numbers=[3, 4])
        self.assertTrue(one == other)

    def test_each_thing_that_counts(self):
        ground, base = with_past()
        changes = {
            "ticket": lambda store: store.begin("c", [], homes=TEN),
            "kept": lambda store: small(store, "c"),
            "drop": lambda store: store.drop("a"),
            "floor": lambda store: forget(store, 1),
            "homes": lambda store: mend(store, 1, 0, into="hl"),
            "forgotten": lambda store: forget(store, 3),
        }
        for word, change in changes.items():
            other = Store(ground.twin())
            self.assertTrue(other == base)
            change(other)
            self.assertFalse(other == base, word)
            self.assertTrue(other != base, word)

    def test_each_part_of_what_is_told_of_a_ticket(self):
        puts = [("a", [1], FOUR, SMALL_SHAPE), ("b", [1], FOUR, SMALL_SHAPE), ("a", [1, 1], FOUR, SMALL_SHAPE),
                ("a", [1], FOUR[::-1], SMALL_SHAPE), ("a", [1], FOUR, (2, 1, 0)), ("a", [1], TEN, PLAIN)]
        stores = []
        for name, row, homes, shape in puts:
            store = made()[1]
            store.put(name, row, homes=homes, shape=shape)
            stores.append(store)
        for at, one in enumerate(stores):
            for place, other in enumerate(stores):
                self.assertIs(one == other, at == place)

    def test_equal_to_nothing_else(self):
        store = made()[1]
        for other in NO_WHOLES + [0, 1, "Store(0)", Ground(HOUSES), store.held]:
            self.assertIs(store == other, False)
            self.assertIs(store != other, True)

    def test_len_and_repr(self):
        ground, store = made()
        told = [(len(store), repr(store))]
        small(store, "a")
        told.append((len(store), repr(store)))
        small(store, "b")
        small(store, "b")
        told.append((len(store), repr(store)))
        store.drop("a")
        told.append((len(store), repr(store)))
        self.assertEqual(told, [(0, "Store(0)"), (1, "Store(1)"), (2, "Store(2)"), (1, "Store(1)")])

    def test_behind_stale_and_in_the_dark(self):
        ground, store = with_past()
        other = with_past()[1]
        gone_dark(ground)
        self.assertEqual((len(store), repr(store), store == other, store.is_busy()), (1, "Store(1)", True, False))
        ground.lit()
        self.assertEqual((len(store), repr(store), store == other, store.is_busy()), (1, "Store(1)", True, False))
        self.assertEqual(store.entries(), other.entries())


if __name__ == "__main__":
    unittest.main()
