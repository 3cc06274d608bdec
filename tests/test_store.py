"""[45] to [48]: how a store is made, what its deeds write, and what they are refused with."""

import unittest

from sherdhall.care import fold, forget, mend, sweep
from sherdhall.errors import (Dark, Down, NoBook, NoHomes, NoName, NoObject, NoPlace, NoRow, NoShape, NotAll, NoTicket,
                              Stale)
from sherdhall.ground import Ground
from sherdhall.scrub import scrub
from sherdhall.store import Store
from grounds import NO_NAMES, Grounds, gone_dark, seen
from oracle import HOUSES, begin, row
from samples import NO_SHAPES, NO_WHOLES, PLAIN, kinds, some_numbers
from stores import FOUR, SMALL_SHAPE, TEN, card_of, made

ROW = [5, 6, 7]


def small(store, name="a", numbers=(5, 6, 7)):
    """Put a row in the small shape."""
    return store.put(name, list(numbers), homes=list(FOUR), shape=SMALL_SHAPE)


def deeds_and_questions(store):
    """All that is refused with Stale and Dark, with things that would else be refused."""
    return [
        lambda: store.begin("A", None, homes=None, shape=None), lambda: store.lay(99, None), lambda: store.seal(99),
        lambda: store.give_up(99), lambda: store.put("A", None, homes=None), lambda: store.drop("A"),
        lambda: store.read("A"), lambda: store.read("a", at=99), lambda: store.read_by("A"),
        lambda: store.why_lost("A"), lambda: store.hours("A"), lambda: store.names(at=99), store.names, store.kept,
        store.open_tickets, lambda: store.about(99), lambda: scrub(store), lambda: mend(store, 99, None),
        lambda: mend(store, 1, 0, into="A"), lambda: sweep(store), lambda: forget(store, 99), lambda: fold(store),
    ]


class Made(Grounds):

    def test_on_a_new_ground(self):
        ground = Ground(HOUSES)
        due = seen(ground)
        Store(ground)
        due["turn"] = 1
        self.assertEqual(seen(ground), due)
        Store(ground)
        due["turn"] = 2
        self.assertEqual(seen(ground), due)

    def test_on_a_dark_ground(self):
        ground = gone_dark(Ground(HOUSES))
        due = seen(ground)
        self.refused(Dark, {"written": 0}, Store, ground)
        self.assertEqual(seen(ground), due)

    def test_dark_ahead_of_no_book(self):
        ground = Ground(HOUSES)
        ground.empty(0)
        gone_dark(ground)
        due = seen(ground)
        self.refused(Dark, {"written": 0}, Store, ground)
        self.assertEqual(seen(ground), due)

    def test_on_a_ground_without_a_right_book(self):
        for rows, at in (([], 0), ([row("book", 1, 1, 1, 0)], 0), ([row("ready", 1)], 0),
                         ([row("book", 1, 1, 1, 0), row("ready", 2)], 0),
                         ([row("book", 1, 1, 1, 1), row("ready", 1)], 0),
                         ([row("book", 1, 1, 1, 0), row("ready", 1), row("root", 1, 1)], 2),
                         ([row("book", 1, 1, 1, 0), row("ready", 1), begin(1, "a"), begin(3, "a"), (4, "root")], 3),
                         ([row("book", 1, 1, 1, 0), row("floor", 1), row("ready", 1)], 1)):
            ground = Ground(HOUSES)
            ground.empty(0)
            for one in rows:
                ground.strike(0, one)
            due = seen(ground)
            self.refused(NoBook, {"at": at}, Store, ground)
            self.assertEqual(seen(ground), due)

    def test_the_elder_book_is_not_looked_at(self):
        ground = Ground(HOUSES)
        ground.strike(0, row("root", 5, 5))
        for one in (row("book", 2, 7, 9, 3), row("ready", 2)):
            ground.strike(1, one)
        store = Store(ground)
        self.assertEqual(store.names(at=3), [])
        self.assertEqual(store.begin("a", [], homes=TEN), 7)
        self.assertEqual(ground.book_rows(1)[-1][:3], (18, "begin", 7))

    def test_a_torn_last_row_is_cut_off_and_costs_one(self):
        for which in (0, 1):
            ground = Ground(HOUSES, fuse=None)
            if which == 1:
                ground.strike(1, row("book", 2, 7, 9, 3))
                ground.strike(1, row("ready", 2))
                ground.strike(0, (4, "root"))
            ground.strike(which, (11, "begin", 1, "a"))
            ground.set_fuse(1)
            due = seen(ground)
            Store(ground)
            due["books"][which].pop()
            due.update(fuse=0, turn=1, written=due["written"] + 1)
            self.assertEqual(seen(ground), due)

    def test_cutting_off_may_go_dark(self):
        ground = Ground(HOUSES)
        ground.strike(0, (11, "begin", 1, "a"))
        ground.set_fuse(0)
        due = seen(ground)
        self.refused(Dark, {"written": 0}, Store, ground)
        due.update(dark=True)
        self.assertEqual(seen(ground), due)

    def test_a_wrong_row_goes_ahead_of_cutting_off(self):
        ground = Ground(HOUSES)
        ground.strike(0, row("root", 1, 1))
        ground.strike(0, (11, "begin"))
        ground.set_fuse(0)
        due = seen(ground)
        self.refused(NoBook, {"at": 2}, Store, ground)
        self.assertEqual(seen(ground), due)


class StaleAndDark(Grounds):

    def refused_all(self, ground, store, due, fields):
        before = seen(ground)
        for asked in deeds_and_questions(store):
            self.refused(due, fields, asked)
        self.assertEqual(seen(ground), before)

    def test_stale_ahead_of_all_else(self):
        ground, store = made()
        small(store)
        Store(ground)
        self.refused_all(ground, store, Stale, {"turn": 2})
        ground.lit()
        self.refused_all(ground, store, Stale, {"turn": 3})

    def test_a_store_on_a_ground_that_was_lit_is_stale(self):
        ground, store = made()
        ground.lit()
        self.refused_all(ground, store, Stale, {"turn": 2})
        self.refused_all(ground, store, Stale, {"turn": 2})

    def test_dark_ahead_of_all_else(self):
        ground, store = made()
        small(store)
        gone_dark(ground)
        self.refused_all(ground, store, Dark, {"written": 0})

    def test_stale_ahead_of_dark(self):
        ground, store = made()
        Store(ground)
        gone_dark(ground)
        self.refused_all(ground, store, Stale, {"turn": 2})

    def test_a_twin_is_another_ground(self):
        ground, store = made()
        small(store)
        twin = ground.twin()
        Store(twin)
        self.assertEqual(store.read("a"), ROW)
        twin.lit()
        self.assertEqual(small(store), 2)

    def test_a_deed_that_goes_dark_in_its_middle(self):
        ground, store = made(fuse=20)
        self.refused(Dark, {"written": 1}, small, store)
        self.refused(Dark, {"written": 0}, small, store)


class Begin(Grounds):

    def test_the_begin_row(self):
        ground, store = made()
        handed = (list(ROW), list(TEN))
        self.assertEqual(store.begin("name", handed[0], homes=handed[1]), 1)
        self.assertEqual(handed, (ROW, TEN))
        self.assertEqual(ground.book_rows(0)[2:], [(18, "begin", 1, "name", 3, 2, 3, 2, *TEN)])
        self.assertEqual(store.begin("b", [], homes=FOUR[::-1], shape=SMALL_SHAPE), 2)
        self.assertEqual(ground.book_rows(0)[3:], [(12, "begin", 2, "b", 0, 1, 2, 1, *FOUR[::-1])])
        self.assertEqual(store.begin("b", [96] * 60, homes=FOUR, shape=SMALL_SHAPE), 3)
        self.assertEqual(store.open_tickets(), [1, 2, 3])
        self.assertEqual((store.kept(), store.names(), ground.drawers("ha")), ([], [], []))

    def test_homes_may_be_down(self):
        ground, store = made()
        ground.down("ha")
        self.assertEqual(store.begin("a", ROW, homes=TEN), 1)

    def test_what_was_handed_in_may_be_changed_behind(self):
        ground, store = made()
        numbers, homes = list(ROW), list(FOUR)
        store.begin("a", numbers, homes=homes, shape=SMALL_SHAPE)
        numbers[0] = 50
        homes[0] = "hl"
        homes.clear()
        for place in range(4):
            store.lay(1, place)
            self.assertEqual(ground.card(FOUR[place], (1, place)), card_of(1, place, ROW, SMALL_SHAPE))
        store.seal(1)
        self.assertEqual(store.read("a"), ROW)

    def refused_by_both(self, due, fields, *things, **more):
        ground, store = made()
        ground.down("ha")
        before = seen(ground)
        for asked in (store.begin, store.put):
            self.refused(due, fields, asked, *things, **more)
        self.assertEqual(seen(ground), before)
        self.assertEqual(store.open_tickets(), [])

    def test_no_name_ahead_of_no_row_ahead_of_no_shape_ahead_of_no_homes(self):
        for name in NO_NAMES:
            self.refused_by_both(NoName, {"name": name}, name, None, homes=None, shape=None)
        self.refused_by_both(NoRow, {"at": None}, "a", None, homes=None, shape=None)
        self.refused_by_both(NoRow, {"at": 1}, "a", [1, 97], homes=None, shape=None)
        self.refused_by_both(NoShape, {"shape": None}, "a", ROW, homes=None, shape=None)
        self.refused_by_both(NoHomes, {"homes": None}, "a", ROW, homes=None)

    def test_no_row(self):
        for thing, at in (((1, 2), None), ("ab", None), ({0: 1}, None), ([0] * 61, None), ([1, -1], 1), ([True], 0),
                          ([97], 0), ([0] * 59 + ["1"], 59)):
            self.refused_by_both(NoRow, {"at": at}, "a", thing, homes=TEN)

    def test_no_shape(self):
        for shape in NO_SHAPES:
            self.refused_by_both(NoShape, {"shape": shape}, "a", ROW, homes=None, shape=shape)

    def test_no_shape_of_more_than_ten_places(self):
        for shape in ((3, 3, 0), (3, 3, 2), (2, 4, 1), (4, 2, 0), (4, 4, 2), (2, 4, 2)):
            many = len(kinds(shape))
            self.refused_by_both(NoShape, {"shape": shape}, "a", ROW, homes=HOUSES[:many], shape=shape)
        ground, store = made()
        for shape in ((2, 4, 0), (3, 2, 1), (4, 1, 2), (2, 3, 2), (3, 2, 0), (1, 1, 0)):
            store.put("a", ROW, homes=HOUSES[:len(kinds(shape))], shape=shape)

    def test_no_homes_of_anything(self):
        things = NO_WHOLES + [5, tuple(TEN), "habhchdhe", {name: 1 for name in TEN}, [], TEN[:9], HOUSES[:11],
                              TEN + ["ha"], TEN[:9] + ["ha"], TEN[:9] + ["other"], TEN[:9] + ["HA"], TEN[:9] + [None],
                              TEN[:9] + [["ha"]], TEN[:9] + [{}], [[]] * 10, ["ha"] * 10, TEN[:9] + [""], TEN[:9] + [9]]
        for thing in things:
            self.refused_by_both(NoHomes, {"homes": thing}, "a", ROW, homes=thing)

    def test_the_field_of_no_homes_is_a_list_of_its_own(self):
        ground, store = made()
        for asked in (store.begin, store.put):
            handed = TEN[:9] + [["ha"]]
            with self.assertRaises(NoHomes) as caught:
                asked("a", ROW, homes=handed)
            self.assertEqual(caught.exception.homes, handed)
            self.assertIsNot(caught.exception.homes, handed)
            handed.clear()
            self.assertEqual(len(caught.exception.homes), 10)
            thing = tuple(TEN)
            with self.assertRaises(NoHomes) as caught:
                asked("a", ROW, homes=thing)
            self.assertIs(caught.exception.homes, thing)

    def test_houses_that_came_later(self):
        ground, store = made(houses=["ha"])
        self.refused(NoHomes, {"homes": ["ha", "hb"]}, store.put, "a", [], homes=["ha", "hb"], shape=(1, 1, 0))
        ground.add_house("hb")
        self.assertEqual(store.put("a", [3], homes=["ha", "hb"], shape=(1, 1, 0)), 1)


class LaySealGiveUp(Grounds):

    def test_the_cards(self):
        for shape in (SMALL_SHAPE, PLAIN, (1, 1, 0), (4, 1, 2), (2, 4, 0)):
            for many in (0, 1, 5, 6, 7, 13, 60):
                ground, store = made()
                numbers = some_numbers(many, many + 1)
                homes = HOUSES[::-1][:len(kinds(shape))]
                ticket = store.begin("a", numbers, homes=homes, shape=shape)
                for place, home in reversed(list(enumerate(homes))):
                    before = ground.members_written()
                    self.assertIsNone(store.lay(ticket, place))
                    due = card_of(ticket, place, numbers, shape)
                    self.assertEqual(ground.card(home, (ticket, place)), due)
                    self.assertEqual(ground.members_written() - before, len(due))
                    self.assertEqual(ground.drawers(home), [(ticket, place)])
                self.assertEqual(store.seal(ticket), 1)
                self.assertEqual(ground.book_rows(0)[-1], (4, "root", 1, 1))
                self.assertEqual(store.read("a"), numbers)

    def test_several_open_tickets_by_turns(self):
        ground, store = made()
        rows = {1: [1, 2], 2: [3], 3: []}
        names = {1: "a", 2: "a", 3: "b"}
        for ticket in rows:
            self.assertEqual(store.begin(names[ticket], rows[ticket], homes=FOUR, shape=SMALL_SHAPE), ticket)
        for place in range(4):
            for ticket in (3, 1, 2):
                store.lay(ticket, place)
                self.assertEqual(ground.card(FOUR[place], (ticket, place)),
                                 card_of(ticket, place, rows[ticket], SMALL_SHAPE))
        self.assertEqual(store.open_tickets(), [1, 2, 3])
        self.assertEqual(store.seal(2), 1)
        self.assertEqual((store.open_tickets(), store.kept(), store.read("a")), ([1, 3], [2], [3]))
        self.assertEqual(store.seal(1), 2)
        self.assertEqual((store.open_tickets(), store.kept(), store.read("a")), ([3], [1, 2], [1, 2]))
        self.assertIsNone(store.give_up(3))
        self.assertEqual((store.open_tickets(), store.names()), ([], ["a"]))
        self.assertEqual(ground.book_rows(0)[-2:], [(4, "root", 2, 1), (4, "root", 1, 2)])
        self.assertEqual(store.begin("b", [], homes=FOUR, shape=SMALL_SHAPE), 4)

    def test_give_up_writes_nothing(self):
        ground, store = made()
        store.begin("a", ROW, homes=TEN)
        store.lay(1, 0)
        ground.set_fuse(0)
        before = seen(ground)
        store.give_up(1)
        self.assertEqual(seen(ground), before)

    def test_no_ticket(self):
        ground, store = made()
        small(store)
        store.begin("a", ROW, homes=TEN)
        store.begin("a", ROW, homes=TEN)
        store.give_up(2)
        before = seen(ground)
        for ticket in (0, 1, 2, 4, 10 ** 59):
            self.refused(NoTicket, {"ticket": ticket}, store.lay, ticket, 0)
            self.refused(NoTicket, {"ticket": ticket}, store.lay, ticket, None)
            self.refused(NoTicket, {"ticket": ticket}, store.seal, ticket)
            self.refused(NoTicket, {"ticket": ticket}, store.give_up, ticket)
        self.assertEqual((seen(ground), store.open_tickets()), (before, [3]))

    def test_no_place(self):
        ground, store = made()
        store.begin("a", ROW, homes=FOUR, shape=SMALL_SHAPE)
        before = seen(ground)
        for place in NO_WHOLES + [-1, 4, 9, 10 ** 59]:
            self.refused(NoPlace, {"place": place}, store.lay, 1, place)
        self.assertEqual(seen(ground), before)

    def test_lay_into_a_home_that_is_down(self):
        ground, store = made()
        store.begin("a", ROW, homes=FOUR, shape=SMALL_SHAPE)
        ground.down("hb")
        before = seen(ground)
        self.refused(Down, {"name": "hb"}, store.lay, 1, 1)
        self.assertEqual((seen(ground), store.open_tickets()), (before, [1]))
        ground.up("hb")
        store.lay(1, 1)

    def test_a_card_is_laid_again(self):
        ground, store = made()
        store.begin("a", ROW, homes=FOUR, shape=SMALL_SHAPE)
        store.lay(1, 0)
        ground.change("ha", (1, 0), at=0, by=1)
        store.lay(1, 0)
        self.assertEqual(ground.card("ha", (1, 0)), card_of(1, 0, ROW, SMALL_SHAPE))

    def test_not_all(self):
        ground, store = made()
        store.begin("a", ROW, homes=TEN)
        for laid in range(10):
            before = seen(ground)
            self.refused(NotAll, {"ticket": 1, "lacking": list(range(laid, 10))}, store.seal, 1)
            self.assertEqual((seen(ground), store.open_tickets()), (before, [1]))
            store.lay(1, laid)
        ground.down("hc")
        ground.take("ha", (1, 0))
        ground.change("he", (1, 4), at=0, by=1)
        ground.exchange("hg", (1, 6), "hi", (1, 8))
        self.refused(NotAll, {"ticket": 1, "lacking": [0, 2, 4, 6, 8]}, store.seal, 1)
        ground.up("hc")
        ground.exchange("hg", (1, 6), "hi", (1, 8))
        ground.change("he", (1, 4), at=0, by=-1)
        self.refused(NotAll, {"ticket": 1, "lacking": [0]}, store.seal, 1)
        store.lay(1, 0)
        self.assertEqual(store.seal(1), 1)
        self.refused(NoTicket, {"ticket": 1}, store.seal, 1)

    def test_the_lacking_places_are_the_askers_own(self):
        ground, store = made()
        store.begin("a", ROW, homes=TEN)
        with self.assertRaises(NotAll) as caught:
            store.seal(1)
        caught.exception.lacking.clear()
        self.refused(NotAll, {"ticket": 1, "lacking": list(range(10))}, store.seal, 1)


class PutAndDrop(Grounds):

    def test_put_member_by_member(self):
        ground, store = made()
        for hour, (name, numbers) in enumerate([("a", ROW), ("b", []), ("a", [9] * 60)], 1):
            before = seen(ground)
            handed = (list(numbers), list(TEN))
            self.assertEqual(store.put(name, handed[0], homes=handed[1]), hour)
            self.assertEqual(handed, (numbers, TEN))
            rows = [(18, "begin", hour, name, len(numbers), 2, 3, 2, *TEN), (4, "root", hour, hour)]
            cards = {(home, (hour, place)): card_of(hour, place, numbers, PLAIN) for place, home in enumerate(TEN)}
            before["books"][0] += rows
            before["cards"].update(cards)
            before["written"] += 22 + sum(map(len, cards.values()))
            self.assertEqual(seen(ground), before)
            self.assertEqual(store.read(name), numbers)

    def test_down_of_the_first_home_by_place_ahead_of_any_write(self):
        ground, store = made()
        for names in (["hd"], ["hb", "hd"], ["hd", "hb", "ha"]):
            for name in names:
                ground.down(name)
            before = seen(ground)
            first = [name for name in ["hc", "hd", "ha", "hb"] if name in names][0]
            self.refused(Down, {"name": first}, store.put, "a", ROW, homes=["hc", "hd", "ha", "hb"], shape=SMALL_SHAPE)
            self.assertEqual((seen(ground), store.open_tickets()), (before, []))
        self.refused(NoHomes, {"homes": ["ha", "hb", "hc"]}, store.put, "a", ROW, homes=["ha", "hb", "hc"],
                     shape=SMALL_SHAPE)
        self.assertEqual(store.put("a", ROW, homes=HOUSES[4:8], shape=SMALL_SHAPE), 1)

    def test_put_while_others_are_open(self):
        ground, store = made()
        store.begin("a", [1], homes=TEN)
        self.assertEqual(small(store), 1)
        self.assertEqual((store.open_tickets(), store.kept()), ([1], [2]))

    def test_drop(self):
        ground, store = made()
        small(store)
        small(store, "b")
        before = seen(ground)
        self.assertEqual(store.drop("a"), 3)
        before["books"][0].append((4, "drop", "a", 3))
        before["written"] += 4
        self.assertEqual(seen(ground), before)
        self.assertEqual((store.names(), store.names(at=2)), (["b"], ["a", "b"]))

    def test_drop_refused(self):
        ground, store = made()
        small(store)
        store.drop("a")
        store.begin("b", ROW, homes=TEN)
        before = seen(ground)
        for name in NO_NAMES:
            self.refused(NoName, {"name": name}, store.drop, name)
        for name in ("a", "b", "zz"):
            self.refused(NoObject, {"name": name}, store.drop, name)
        self.assertEqual(seen(ground), before)
        self.assertEqual(small(store), 3)
        self.assertEqual(store.drop("a"), 4)


if __name__ == "__main__":
    unittest.main()
