"""[34] and [35]: what a write costs, what lies there where the ground goes dark, and what goes ahead of what."""

import unittest

from sherdhall.cards import looked, made_card
from sherdhall.errors import Dark, Down, NoCard, NoHouse, NoName
from sherdhall.ground import Ground
from grounds import CARD, KEY, Grounds, gone_dark, seen, with_cards
from oracle import HOUSES, begin, row

TORN = (11, "begin", 1, "a")
ROWS = [begin(1, "a"), row("root", 1, 1), row("drop", "a", 2), row("moved", 1, 0, "hz"), row("floor", 1),
        row("book", 2, 1, 1, 0), row("ready", 2), begin(1, "a", shape=(2, 3, 2), homes=HOUSES[:10])]


def with_a_torn_row():
    """A ground with cards, whose second book ends in a torn row."""
    ground = with_cards()
    ground.strike(1, row("book", 2, 1, 1, 0))
    ground.strike(1, TORN)
    return ground


class Costs(Grounds):

    def by_every_fuse(self, made, cost, write, after):
        """Write with every fuse from none to one more than it costs, and hold what lies there against after.

        after(seen, done) changes what was seen ahead into what is seen behind, done being how many were put down.
        """
        for fuse in [None, *range(cost + 2)]:
            ground = made()
            ground.set_fuse(fuse)
            due = seen(ground)
            done = cost if fuse is None else min(cost, fuse)
            if done < cost:
                self.refused(Dark, {"written": done}, write, ground)
            else:
                self.assertIsNone(write(ground))
            if done > 0:
                after(due, done)
            due["dark"] = done < cost
            due["fuse"] = None if fuse is None else fuse - done
            due["written"] += done
            self.assertEqual(seen(ground), due)
            if done < cost:
                self.refused(Dark, {"written": 0}, write, ground)
                self.assertEqual(seen(ground), due)

    def test_a_card_laid(self):
        for cells in ([], [5], [1, 2, 96], [7] * 12):
            for name, ticket, place in (("ha", 1, 2), ("hb", 1, 2), ("hc", 9, 0)):
                card = made_card(ticket, place, cells)

                def after(due, done):
                    due["cards"][(name, (ticket, place))] = card[:done]

                self.by_every_fuse(with_cards, len(card), lambda ground: ground.lay_card(name, card), after)

    def test_a_torn_card_is_torn(self):
        for fuse in range(1, len(CARD)):
            ground = Ground(["ha"], fuse=fuse)
            self.refused(Dark, {"written": fuse}, ground.lay_card, "ha", CARD)
            self.assertEqual(looked(ground.card("ha", KEY), *KEY), "torn")

    def test_a_card_pulled(self):
        def after(due, _):
            del due["cards"][("ha", KEY)]

        self.by_every_fuse(with_cards, 1, lambda ground: ground.pull("ha", KEY), after)

    def test_a_row_struck(self):
        for which in (0, 1):
            for one in ROWS:
                def after(due, done):
                    due["books"][which].append(one[:done])

                self.by_every_fuse(with_cards, len(one), lambda ground: ground.strike(which, one), after)

    def test_a_torn_last_row_cut_off(self):
        def after(due, _):
            del due["books"][1][-1]

        self.by_every_fuse(with_a_torn_row, 1, lambda ground: ground.cut_off(1), after)

    def test_no_torn_last_row_cut_off(self):
        for which in (0, 1):
            self.by_every_fuse(with_cards, 0, lambda ground: ground.cut_off(which), None)
        self.by_every_fuse(with_a_torn_row, 0, lambda ground: ground.cut_off(0), None)

    def test_only_one_row_is_cut_off(self):
        ground = with_a_torn_row()
        ground.cut_off(1)
        written = ground.members_written()
        ground.cut_off(1)
        self.assertEqual(ground.book_rows(1), [row("book", 2, 1, 1, 0)])
        self.assertEqual(ground.members_written(), written)

    def test_a_book_emptied_with_rows_and_without(self):
        for made, which in ((with_cards, 0), (with_cards, 1), (with_a_torn_row, 1)):
            def after(due, _):
                due["books"][which] = []

            self.by_every_fuse(made, 1, lambda ground: ground.empty(which), after)

    def test_in_a_dark_ground_each_write_is_refused_and_nothing_changed(self):
        ground = gone_dark(with_a_torn_row())
        due = seen(ground)
        writes = [lambda: ground.lay_card("hc", CARD), lambda: ground.pull("ha", KEY), lambda: ground.empty(0),
                  lambda: ground.empty(1), lambda: ground.cut_off(0), lambda: ground.cut_off(1)]
        writes += [lambda one=one: ground.strike(0, one) for one in ROWS]
        for write in writes:
            self.refused(Dark, {"written": 0}, write)
            self.assertEqual(seen(ground), due)

    def test_several_writes_by_one_fuse(self):
        ground = Ground(["ha"], fuse=len(CARD) + 4)
        ground.lay_card("ha", CARD)
        ground.pull("ha", KEY)
        self.assertEqual((ground.fuse_left(), ground.members_written()), (3, len(CARD) + 1))
        self.refused(Dark, {"written": 3}, ground.strike, 1, row("root", 1, 1))
        self.assertEqual((ground.fuse_left(), ground.members_written()), (0, len(CARD) + 4))
        self.assertEqual(ground.book_rows(1), [(4, "root", 1)])
        ground.lit(fuse=1)
        ground.cut_off(1)
        self.assertEqual((ground.fuse_left(), ground.is_dark(), ground.book_rows(1)), (0, False, []))
        self.refused(Dark, {"written": 0}, ground.empty, 1)
        self.assertEqual(ground.members_written(), len(CARD) + 5)


class Order(Grounds):

    def test_dark_then_no_name_then_no_house_then_down_then_the_fuse(self):
        ground = with_cards()
        ground.down("ha")
        ground.set_fuse(0)
        for write in (lambda name: ground.lay_card(name, CARD), lambda name: ground.pull(name, KEY),
                      lambda name: ground.pull(name, (9, 9))):
            for name in ("", "A", "h a", "abcdefghi"):
                self.refused(NoName, {"name": name}, write, name)
            self.refused(NoHouse, {"name": "hx"}, write, "hx")
            self.refused(Down, {"name": "ha"}, write, "ha")
        self.refused(NoCard, {"house": "hb", "key": (9, 9)}, ground.pull, "hb", (9, 9))
        self.assertFalse(ground.is_dark())
        due = seen(ground)
        self.refused(Dark, {"written": 0}, ground.lay_card, "hb", made_card(2, 0, [9]))
        due.update(dark=True)
        self.assertEqual(seen(ground), due)
        for name in ("A", "hx", "ha", "hb"):
            self.refused(Dark, {"written": 0}, ground.lay_card, name, CARD)
            self.refused(Dark, {"written": 0}, ground.pull, name, (9, 9))
        self.assertEqual(seen(ground), due)

    def test_no_card_of_pull_behind_down(self):
        ground = with_cards()
        ground.down("hc")
        due = seen(ground)
        self.refused(Down, {"name": "hc"}, ground.pull, "hc", KEY)
        ground.up("hc")
        self.refused(NoCard, {"house": "hc", "key": KEY}, ground.pull, "hc", KEY)
        due["up"] = [True] * 3
        self.assertEqual(seen(ground), due)

    def test_what_lay_under_the_key_stays_where_no_member_is_put_down(self):
        for fuse in range(3):
            ground = with_cards()
            ground.set_fuse(fuse)
            self.refused(Dark, {"written": fuse}, ground.lay_card, "ha", made_card(1, 2, [50, 60, 70]))
            self.assertEqual(ground.card("ha", KEY), (8, 1)[:fuse] if fuse else CARD)

    def test_a_torn_card_lies_under_the_key_that_it_was_to_have(self):
        for fuse in (1, 2, 3):
            ground = Ground(["ha"], fuse=fuse)
            self.refused(Dark, {"written": fuse}, ground.lay_card, "ha", made_card(30, 4, [1]))
            self.assertEqual(ground.drawers("ha"), [(30, 4)])
            self.assertEqual(ground.card("ha", (30, 4)), (6, 30, 4)[:fuse])

    def test_a_row_stands_behind_all_of_its_book(self):
        ground = Ground([])
        for one in ROWS:
            ground.strike(0, one)
            ground.strike(1, one)
        self.assertEqual(ground.book_rows(0)[2:], ROWS)
        self.assertEqual(ground.book_rows(1), ROWS)


if __name__ == "__main__":
    unittest.main()
