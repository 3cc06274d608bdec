"""[54] to [58]: pieces looked through and mended, drawers swept, hours forgotten, and the book folded."""

import unittest

from sherdhall.care import fold, forget, mend, sweep
from sherdhall.errors import Dark, Down, Lost, NoHour, NoHouse, NoName, NoPlace, NoTicket, Taken
from sherdhall.scrub import scrub
from sherdhall.store import Store
from sherdhall.table import replay
from grounds import NO_NAMES, Grounds, seen
import oracle
from oracle import HOUSES
from samples import NO_WHOLES, PLAIN, kinds, lists_of, some_numbers, told_places
from stores import (FOUR, SMALL_SHAPE, TEN, by_every_fuse, card_of, drawn_fault, made, places_read, readable_objects,
                    reads_of, seeded, told_of, why_not)

ROW = some_numbers(7, 5)


def small(store, name="a", numbers=(5, 6, 7)):
    """Put a row in the small shape."""
    return store.put(name, list(numbers), homes=list(FOUR), shape=SMALL_SHAPE)


def with_plain(row=tuple(ROW)):
    """A ground and a store with one row in PLAIN, the last two houses free."""
    ground, store = made()
    store.put("a", list(row), homes=list(TEN))
    return ground, store


def all_of(store):
    """All that a store tells, its reads of all hours too."""
    hours = range(store.held.book.least_hour(), store.held.book.next_hour())
    return told_of(store), reads_of(store, hours)


class Scrub(Grounds):

    def test_nothing_to_tell(self):
        self.assertEqual(scrub(made()[1]), [])
        self.assertEqual(scrub(with_plain()[1]), [])

    def test_each_why_and_which_goes_first(self):
        ground, store = with_plain()
        ground.lose("ha")
        ground.change("hb", (1, 1), at=0, by=1)
        ground.exchange("hc", (1, 2), "hd", (1, 3))
        ground.change("hd", (1, 3), at=0, by=1)
        ground.lose("he")
        ground.down("he")
        ground.change("hf", (1, 5), at=0, by=1)
        ground.down("hf")
        before = seen(ground)
        self.assertEqual(scrub(store), [
            (1, 0, "ha", "gone"), (1, 1, "hb", "spoilt"), (1, 2, "hc", "strange"), (1, 3, "hd", "strange"),
            (1, 4, "he", "down"), (1, 5, "hf", "down")])
        self.assertEqual(seen(ground), before)

    def test_torn(self):
        ground, store = with_plain()
        for place in (2, 7):
            ground.set_fuse(3)
            with self.assertRaises(Dark):
                ground.lay_card(TEN[place], ground.card(TEN[place], (1, place)))
            ground.lit()
        ground.exchange("hc", (1, 2), "hd", (1, 3))
        self.assertEqual(scrub(Store(ground)), [(1, 2, "hc", "strange"), (1, 3, "hd", "torn"), (1, 7, "hh", "torn")])

    def test_only_kept_tickets_by_ticket_and_place(self):
        ground, store = made()
        small(store)
        store.begin("a", [1], homes=FOUR, shape=SMALL_SHAPE)
        small(store)
        store.put("b", [1], homes=FOUR[::-1], shape=SMALL_SHAPE)
        ground.lose("hb")
        ground.lose("hd")
        due = [(1, 1, "hb", "gone"), (1, 3, "hd", "gone"), (3, 1, "hb", "gone"), (3, 3, "hd", "gone"),
               (4, 0, "hd", "gone"), (4, 2, "hb", "gone")]
        self.assertEqual(scrub(store), due)
        forget(store, 2)
        self.assertEqual(scrub(store), due[2:])
        mend(store, 3, 1, into="hl")
        self.assertEqual(scrub(store), due[3:])

    def test_drawn_faults(self):
        for seed in range(30):
            draw = seeded(seed)
            ground, store = made()
            for _ in range(3):
                store.put("a", ROW, homes=draw.sample(HOUSES, 10))
            for _ in range(10):
                drawn_fault(draw, ground)
                due = []
                for ticket in store.kept():
                    for place, home in enumerate(store.about(ticket)[3]):
                        why = why_not(ground, ticket, place, home)
                        due += [(ticket, place, home, why)] if why else []
                self.assertEqual(scrub(store), due)


class Mend(Grounds):

    def fewest(self, read, place, shape):
        """How many reads are enough; None where all that can be read are not."""
        for chosen in lists_of(read, 1, len(read)):
            if place in told_places(chosen, shape):
                return len(chosen)
        return None

    def mended(self, ground, store, ticket, place, row, *, into=None):
        """Mend, and hold what is told and written against the words of [55]."""
        name, _, shape, homes = store.about(ticket)
        read = places_read(ground, ticket, homes)
        house = homes[place] if into is None else into
        before = seen(ground)
        due = self.fewest(read, place, shape)
        if due is None:
            lacking = [other for other in range(len(homes)) if other not in read]
            self.refused(Lost, {"name": name, "ticket": ticket, "lacking": lacking}, mend, store, ticket, place,
                         into=into)
            self.assertEqual(seen(ground), before)
            return False
        told = mend(store, ticket, place, into=into)
        self.assertIs(type(told), list)
        self.assertEqual(told, sorted(set(told)))
        self.assertTrue(set(told) <= set(read))
        self.assertEqual(len(told), due)
        self.assertIn(place, told_places(tuple(told), shape))
        if place in read:
            self.assertEqual(told, [place])
        if house != homes[place] or place not in read:
            card = card_of(ticket, place, row, shape)
            before["cards"][(house, (ticket, place))] = card
            before["written"] += len(card)
        if house != homes[place]:
            before["books"][store.held.which].append((5, "moved", ticket, place, house))
            before["written"] += 5
            homes[place] = house
        self.assertEqual(seen(ground), before)
        self.assertEqual(store.about(ticket)[3], homes)
        self.assertIn(place, places_read(ground, ticket, homes))
        return True

    def test_at_home_where_the_card_can_be_read(self):
        ground, store = with_plain()
        ground.set_fuse(0)
        for place in range(10):
            self.mended(ground, store, 1, place, ROW)
            self.mended(ground, store, 1, place, ROW, into=TEN[place])

    def test_at_home_and_into_another_house(self):
        for place in range(10):
            for into in (None, TEN[place], "hl", "hk"):
                ground, store = with_plain()
                ground.take(TEN[place], (1, place))
                ground.lose(TEN[(place + 4) % 10])
                self.assertTrue(self.mended(ground, store, 1, place, ROW, into=into))
                self.assertEqual(store.read("a"), ROW)

    def test_each_way_in_which_the_card_can_not_be_read(self):
        for way in (lambda ground: ground.take("hc", (1, 2)), lambda ground: ground.change("hc", (1, 2), at=1, by=8),
                    lambda ground: ground.exchange("hc", (1, 2), "hd", (1, 3))):
            for into in (None, "hl"):
                ground, store = with_plain()
                way(ground)
                self.assertTrue(self.mended(ground, store, 1, 2, ROW, into=into))
                self.assertTrue(self.mended(ground, store, 1, 3, ROW))
                self.assertEqual(scrub(store), [])

    def test_a_card_that_can_be_read_into_another_house(self):
        ground, store = with_plain()
        for house in ("hl", "hk", "hl", "ha"):
            self.assertTrue(self.mended(ground, store, 1, 0, ROW, into=house))
        self.assertEqual(ground.card("hk", (1, 0)), ground.card("ha", (1, 0)))

    def test_the_home_is_down_but_not_the_other_house(self):
        ground, store = with_plain()
        ground.down("ha")
        self.refused(Down, {"name": "ha"}, mend, store, 1, 0)
        self.assertTrue(self.mended(ground, store, 1, 0, ROW, into="hl"))
        ground.up("ha")
        self.assertEqual(ground.card("ha", (1, 0)), ground.card("hl", (1, 0)))

    def test_fewest_reads_of_every_set_of_lost_pieces_of_small_shapes(self):
        for shape in (SMALL_SHAPE, (2, 1, 1), (1, 2, 2)):
            homes = HOUSES[:len(kinds(shape))]
            for lost in lists_of(range(len(homes)), 1, len(homes)):
                for place in lost:
                    for into in (None, "hl"):
                        ground, store = made()
                        store.put("a", ROW, homes=homes, shape=shape)
                        for other in lost:
                            ground.take(homes[other], (1, other))
                        self.mended(ground, store, 1, place, ROW, into=into)

    def test_drawn_faults(self):
        told = [0, 0]
        for seed in range(60):
            draw = seeded(seed)
            ground, store = made()
            rows = {}
            for ticket in range(1, 4):
                shape = draw.choice([PLAIN, SMALL_SHAPE, (2, 4, 0), (4, 1, 2)])
                rows[ticket] = some_numbers(draw.randrange(30), seed)
                store.put("a", rows[ticket], homes=draw.sample(HOUSES, len(kinds(shape))), shape=shape)
            for _ in range(15):
                drawn_fault(draw, ground)
                ticket = draw.choice(list(rows))
                homes = store.about(ticket)[3]
                place = draw.randrange(len(homes))
                into = draw.choice([None, homes[place]] + [name for name in HOUSES if name not in homes])
                if ground.is_up(homes[place] if into is None else into):
                    told[self.mended(ground, store, ticket, place, rows[ticket], into=into)] += 1
        self.assertTrue(min(told) > 30, told)

    def test_an_empty_rows_piece_too_may_be_lost(self):
        ground, store = made()
        small(store, "a", [])
        for name in FOUR:
            ground.lose(name)
        self.refused(Lost, {"name": "a", "ticket": 1, "lacking": [0, 1, 2, 3]}, mend, store, 1, 0)
        self.assertEqual(store.read("a"), [])

    def test_refusals_in_order(self):
        ground, store = with_plain()
        small(store, "b")
        store.begin("c", [], homes=TEN)
        for name in ("ha", "hb", "hc", "hd", "hl"):
            ground.lose(name)
            ground.down(name)
        before = seen(ground)
        for ticket in (0, 3, 4, 10 ** 59):
            self.refused(NoTicket, {"ticket": ticket}, mend, store, ticket, None, into="A")
        for place in NO_WHOLES + [-1, 10, 10 ** 59]:
            self.refused(NoPlace, {"place": place}, mend, store, 1, place, into="A")
        self.refused(NoPlace, {"place": 4}, mend, store, 2, 4, into="A")
        for name in NO_NAMES:
            self.refused(NoName, {"name": name}, mend, store, 1, 0, into=name)
        self.refused(NoHouse, {"name": "hx"}, mend, store, 1, 0, into="hx")
        for name in ("hb", "he", "hj"):
            self.refused(Taken, {"name": name}, mend, store, 1, 0, into=name)
        for name in ("ha", "hl"):
            self.refused(Down, {"name": name}, mend, store, 1, 0, into=name)
        self.refused(Down, {"name": "ha"}, mend, store, 1, 0)
        self.refused(Down, {"name": "hb"}, mend, store, 1, 1)
        self.refused(Lost, {"name": "a", "ticket": 1, "lacking": [0, 1, 2, 3]}, mend, store, 1, 0, into="hk")
        self.assertEqual(seen(ground), before)
        self.assertEqual(store.about(1)[3], TEN)

    def test_a_house_that_was_a_home_is_free_again(self):
        ground, store = with_plain()
        mend(store, 1, 0, into="hl")
        self.refused(Taken, {"name": "hl"}, mend, store, 1, 1, into="hl")
        mend(store, 1, 1, into="ha")
        self.assertEqual(store.about(1)[3], ["hl", "ha"] + TEN[2:])
        self.assertEqual(ground.drawers("ha"), [(1, 0), (1, 1)])
        sweep(store)
        self.assertEqual((ground.drawers("ha"), ground.drawers("hb")), ([(1, 1)], []))

    def test_told_places_and_lacking_are_the_askers_own(self):
        ground, store = with_plain()
        ground.take("ha", (1, 0))
        base = ground.twin()
        first = mend(store, 1, 0)
        again = Store(base)
        mend(again, 1, 1).clear()
        self.assertEqual(mend(again, 1, 0), first)

    def test_cut_everywhere(self):
        ground, store = with_plain()
        ground.take("ha", (1, 0))
        ground.take("hb", (1, 1))
        due = store.read("a")
        for into in (None, "hl"):
            for fuse, cost, _, twin, _ in by_every_fuse(ground, lambda store: mend(store, 1, 0, into=into)):
                whole = fuse is None or fuse >= cost
                twin.lit()
                anew = Store(twin)
                self.assertEqual(anew.about(1)[3], ([into] if into and whole else ["ha"]) + TEN[1:])
                self.assertEqual(anew.read("a"), due)
                self.assertEqual(0 in [place for _, place, _, _ in scrub(anew)], not whole)


class Sweep(Grounds):

    def test_what_is_pulled(self):
        ground, store = with_plain()
        self.assertEqual(sweep(store), 0)
        small(store, "b")
        store.begin("c", [1], homes=FOUR, shape=SMALL_SHAPE)
        store.begin("c", [1], homes=FOUR, shape=SMALL_SHAPE)
        for place in range(4):
            store.lay(3, place)
            store.lay(4, place)
        store.give_up(4)
        mend(store, 1, 2, into="hl")
        ground.lay_card("hk", card_of(1, 0, ROW, PLAIN))
        ground.lay_card("hk", card_of(99, 0, ROW, PLAIN))
        ground.lay_card("ha", card_of(1, 1, ROW, PLAIN))
        before = seen(ground)
        due = [("ha", (1, 1)), ("ha", (4, 0)), ("hb", (4, 1)), ("hc", (1, 2)), ("hc", (4, 2)), ("hd", (4, 3)),
               ("hk", (1, 0)), ("hk", (99, 0))]
        self.assertEqual(sweep(store), 8)
        for drawer in due:
            del before["cards"][drawer]
        before["written"] += 8
        self.assertEqual(seen(ground), before)
        self.assertEqual(sweep(store), 0)
        self.assertEqual(seen(ground), before)
        self.assertEqual([store.seal(3), store.read("a"), store.read("c")], [3, ROW, [1]])

    def test_by_names_then_keys_where_it_goes_dark(self):
        ground, store = made()
        drawers = [("ha", (5, 1)), ("ha", (10, 0)), ("hb", (2, 0)), ("hb", (2, 1)), ("hk", (1, 1))]
        for name, (ticket, place) in reversed(drawers):
            ground.lay_card(name, card_of(ticket, place, [1], SMALL_SHAPE))
        for fuse, cost, _, twin, answer in by_every_fuse(ground, sweep):
            left = [(name, key) for name in HOUSES for key in twin.drawers(name)]
            self.assertEqual(cost, 5)
            self.assertEqual(left, drawers[fuse:] if fuse is not None else [])
            if fuse is None or fuse >= 5:
                self.assertEqual(answer, 5)
            else:
                self.assertEqual((type(answer), answer.written), (Dark, 0))

    def test_houses_that_are_down_are_left(self):
        ground, store = made()
        for name in ("ha", "hb", "hc"):
            ground.lay_card(name, card_of(7, 0, [1], SMALL_SHAPE))
        ground.down("hb")
        self.assertEqual(sweep(store), 2)
        self.assertEqual(ground.drawers("hb"), [(7, 0)])
        ground.up("hb")
        self.assertEqual((sweep(store), sweep(store)), (1, 0))

    def test_torn_strange_and_spoilt_cards_in_their_homes_stay(self):
        ground, store = with_plain()
        ground.change("ha", (1, 0), at=0, by=1)
        ground.exchange("hb", (1, 1), "hc", (1, 2))
        self.assertEqual(sweep(store), 0)

    def test_what_is_forgotten_is_swept(self):
        ground, store = made()
        small(store)
        small(store)
        self.assertEqual((sweep(store), forget(store, 2), sweep(store), store.read("a")), (0, [1], 4, [5, 6, 7]))

    def test_behind_a_put_that_fell(self):
        ground, store = made()
        small(store)
        for fuse, cost, _, twin, _ in by_every_fuse(ground, lambda store: small(store, "a", [9])):
            twin.lit()
            anew = Store(twin)
            due = sum(len(twin.drawers(name)) for name in HOUSES) - 4 * len(anew.kept())
            self.assertEqual((sweep(anew), sweep(anew)), (due, 0))


class Forget(Grounds):

    def test_the_floor_row_and_what_is_kept_no_more(self):
        ground, store = made()
        small(store, "a", [1])
        small(store, "b", [2])
        small(store, "a", [3])
        store.drop("b")
        before = seen(ground)
        self.assertEqual(forget(store, 0), [])
        self.assertEqual(seen(ground), before)
        for hour, due in ((1, []), (2, []), (3, [1]), (4, [2])):
            self.assertEqual(forget(store, hour), due)
            before["books"][0].append((3, "floor", hour))
            before["written"] += 3
            self.assertEqual(forget(store, hour), [])
            self.assertEqual(seen(ground), before)
            self.assertEqual(store.held.book.least_hour(), hour)
        self.assertEqual((store.kept(), store.names()), ([3], ["a"]))

    def test_several_at_once_rising(self):
        ground, store = made()
        for name in "cab":
            small(store, name)
        for name in "bac":
            small(store, name)
        self.assertEqual(forget(store, 6), [1, 2, 3])
        self.assertEqual(store.read("b", at=6), [5, 6, 7])

    def test_no_hour(self):
        ground, store = made()
        small(store)
        small(store)
        forget(store, 1)
        before = seen(ground)
        for hour in (-1, 0, 3, 10 ** 59):
            self.refused(NoHour, {"hour": hour}, forget, store, hour)
            self.refused(NoHour, {"hour": hour}, store.read, "a", at=hour)
        self.assertEqual(seen(ground), before)

    def test_cut_everywhere(self):
        ground, store = made()
        small(store, "a")
        small(store, "a")
        for fuse, cost, _, twin, answer in by_every_fuse(ground, lambda store: forget(store, 2)):
            self.assertEqual(cost, 3)
            twin.lit()
            whole = fuse is None or fuse >= 3
            self.assertEqual(Store(twin).kept(), [2] if whole else [1, 2])
            self.assertEqual(answer == [1], whole)


class Fold(Grounds):

    def with_past(self):
        ground, store = made()
        small(store, "b", [1])
        small(store, "a", [2])
        store.drop("b")
        store.put("a", ROW, homes=list(TEN))
        store.begin("c", [3], homes=list(FOUR), shape=SMALL_SHAPE)
        store.begin("d", [4], homes=list(FOUR), shape=SMALL_SHAPE)
        store.give_up(4)
        small(store, "e", [5])
        store.drop("e")
        mend(store, 3, 0, into="hl")
        forget(store, 3)
        return ground, store

    def test_the_rows_of_the_other_book_in_their_order(self):
        ground, store = self.with_past()
        before = seen(ground)
        told = all_of(store)
        due = [(6, "book", 2, 7, 7, 3), (12, "begin", 2, "a", 1, 1, 2, 1, *FOUR),
               (18, "begin", 3, "a", 7, 2, 3, 2, "hl", *TEN[1:]), (12, "begin", 5, "d", 1, 1, 2, 1, *FOUR),
               (12, "begin", 6, "e", 1, 1, 2, 1, *FOUR), (4, "root", 2, 2), (4, "root", 3, 4), (4, "root", 6, 5),
               (4, "drop", "e", 6), (3, "ready", 2)]
        self.assertEqual(fold(store), 10)
        before["books"][1] = due
        before["written"] += 1 + sum(map(len, due))
        self.assertEqual(seen(ground), before)
        self.assertEqual(all_of(store), told)
        self.assertEqual(store.open_tickets(), [5])

    def test_from_then_on_that_one_is_the_right_one(self):
        ground, store = self.with_past()
        fold(store)
        elder = ground.book_rows(0)
        for place in range(4):
            store.lay(5, place)
        self.assertEqual((store.seal(5), small(store, "b", [6])), (7, 8))
        self.assertEqual(ground.book_rows(0), elder)
        self.assertEqual(ground.book_rows(1)[-3:], [(4, "root", 5, 7), (12, "begin", 7, "b", 1, 1, 2, 1, *FOUR),
                                                    (4, "root", 7, 8)])
        told = all_of(store)
        many = fold(store)
        self.assertEqual((len(ground.book_rows(0)), ground.book_rows(0)[0]), (many, (6, "book", 3, 8, 9, 3)))
        self.assertEqual(all_of(store), told)
        anew = Store(ground)
        self.assertEqual(all_of(anew), told)
        self.assertTrue(anew == store)

    def test_on_a_new_ground(self):
        ground, store = made()
        self.assertEqual(fold(store), 2)
        self.assertEqual(ground.book_rows(1), [(6, "book", 2, 1, 1, 0), (3, "ready", 2)])
        self.assertEqual(fold(store), 2)
        self.assertEqual(ground.book_rows(0), [(6, "book", 3, 1, 1, 0), (3, "ready", 3)])
        self.assertEqual(small(store), 1)

    def test_a_right_book_of_which_all_is_told_alike(self):
        ground, store = self.with_past()
        rows = ground.book_rows(0)
        fold(store)
        other = ground.book_rows(1)
        self.assertEqual(oracle.kept(other), oracle.kept(rows))
        for hour in oracle.hours_told(rows):
            for name in "abcde":
                self.assertEqual(oracle.ticket_at(other, name, hour), oracle.ticket_at(rows, name, hour))
        self.assertEqual(replay(other).unsealed_tickets(), [5])

    def test_cut_everywhere(self):
        ground, store = self.with_past()
        for _ in range(2):
            told = all_of(Store(ground.twin()))
            readable = readable_objects(ground)
            for fuse, cost, one, twin, answer in by_every_fuse(ground, fold):
                whole = fuse is None or fuse >= cost
                self.assertEqual(isinstance(answer, Dark), not whole)
                twin.lit()
                anew = Store(twin)
                self.assertEqual(anew.held.which, one.held.which)
                self.assertEqual(all_of(anew), told)
                self.assertEqual(readable_objects(twin), readable)
                self.assertEqual(fold(anew), len(twin.book_rows(anew.held.which)))
                self.assertEqual(all_of(Store(twin)), told)
            fold(Store(ground))


if __name__ == "__main__":
    unittest.main()
