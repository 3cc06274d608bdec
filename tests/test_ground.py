"""[32], [33] and [36]: houses and what happens to them, turns, fuses and twins."""

import copy
import random
import unittest

from sherdhall.cards import looked, made_card
from sherdhall.errors import Dark, NoCard, NoHouse, NoName, SherdError, Taken
from sherdhall.ground import Ground
from grounds import CARD, KEY, NO_NAMES, Grounds, gone_dark, seen, with_cards
from oracle import begin, row


class Made(Grounds):

    def test_at_first(self):
        ground = Ground(["hb", "ha"])
        self.assertEqual(seen(ground), {
            "up": [True, True], "houses": ["ha", "hb"], "cards": {},
            "books": [[(6, "book", 1, 1, 1, 0), (3, "ready", 1)], []],
            "dark": False, "fuse": None, "written": 0, "turn": 0})

    def test_with_a_fuse_and_without_houses(self):
        for fuse in (0, 1, 10 ** 59, None):
            self.assertEqual(Ground([], fuse=fuse).fuse_left(), fuse)
            self.assertIs(Ground([], fuse=fuse).is_dark(), False)
        self.assertEqual(Ground([]).houses(), [])

    def test_no_name_of_the_first_that_is_none(self):
        for name in NO_NAMES:
            self.refused(NoName, {"name": name}, Ground, ["ha", name, "", "hb"])
            self.refused(NoName, {"name": name}, Ground, ["ha", "ha", name, "B"])

    def test_taken_of_the_first_that_stood_there_ahead(self):
        self.refused(Taken, {"name": "hb"}, Ground, ["ha", "hb", "hb", "ha"])
        self.refused(Taken, {"name": "ha"}, Ground, ["ha", "hb", "ha", "hb"])

    def test_what_was_handed_in_may_be_changed_behind(self):
        names = ["hb", "ha"]
        ground = Ground(names)
        self.assertEqual(names, ["hb", "ha"])
        names.append("hc")
        names[0] = "hd"
        self.assertEqual(ground.houses(), ["ha", "hb"])

    def test_add_house(self):
        ground = with_cards()
        self.assertIsNone(ground.add_house("aa"))
        self.assertEqual(ground.houses(), ["aa", "ha", "hb", "hc"])
        self.assertEqual((ground.is_up("aa"), ground.drawers("aa")), (True, []))
        due = seen(ground)
        for name in NO_NAMES:
            self.refused(NoName, {"name": name}, ground.add_house, name)
        for name in ("aa", "ha"):
            self.refused(Taken, {"name": name}, ground.add_house, name)
        self.assertEqual(seen(ground), due)

    def test_a_house_comes_in_the_dark_too(self):
        ground = gone_dark(with_cards())
        ground.add_house("hx")
        self.assertIn("hx", ground.houses())
        self.assertTrue(ground.is_dark())

    def test_two_grounds_have_nothing_in_common(self):
        one, other = Ground(["ha"]), Ground(["ha"])
        one.lay_card("ha", CARD)
        one.strike(0, begin(1, "a"))
        one.down("ha")
        self.assertEqual(seen(other), seen(Ground(["ha"])))

    def test_every_told_list_is_the_askers_own(self):
        ground = with_cards()
        for asked in (ground.houses, lambda: ground.drawers("ha"), lambda: ground.drawers("hc"),
                      lambda: ground.book_rows(0), lambda: ground.book_rows(1)):
            due = list(asked())
            told = asked()
            self.assertIs(type(told), list)
            told.append("hz")
            told.reverse()
            self.assertEqual(asked(), due)


class Questions(Grounds):

    def test_drawers_are_sorted(self):
        ground = Ground(["ha"])
        keys = [(2, 1), (10, 0), (1, 9), (2, 0), (1, 10)]
        for ticket, place in keys:
            ground.lay_card("ha", made_card(ticket, place, [ticket]))
        self.assertEqual(ground.drawers("ha"), [(1, 9), (1, 10), (2, 0), (2, 1), (10, 0)])
        self.assertEqual([ground.card("ha", key) for key in keys], [made_card(*key, [key[0]]) for key in keys])

    def test_no_card_is_none(self):
        ground = with_cards()
        self.assertEqual(ground.card("ha", KEY), CARD)
        for name, key in (("ha", (1, 1)), ("ha", (2, 0)), ("hb", KEY), ("hc", KEY)):
            self.assertIsNone(ground.card(name, key))

    def test_no_name_then_no_house(self):
        ground = with_cards()
        for asked in (ground.is_up, ground.drawers, lambda name: ground.card(name, KEY)):
            for name in NO_NAMES:
                self.refused(NoName, {"name": name}, asked, name)
            self.refused(NoHouse, {"name": "hx"}, asked, "hx")

    def test_questions_in_the_dark_and_of_houses_that_are_down(self):
        ground = with_cards()
        ground.down("ha")
        due = seen(ground)
        gone_dark(ground)
        due.update(dark=True, fuse=0)
        self.assertEqual(seen(ground), due)
        self.assertEqual(ground.card("ha", KEY), CARD)


class Happens(Grounds):

    def test_down_and_up(self):
        ground = with_cards()
        cards = seen(ground)["cards"]
        for asked, due in ((ground.down, False), (ground.down, False), (ground.up, True), (ground.up, True)):
            self.assertIsNone(asked("ha"))
            self.assertIs(ground.is_up("ha"), due)
            self.assertIs(ground.is_up("hb"), True)
            self.assertEqual(seen(ground)["cards"], cards)

    def test_lose(self):
        for down in (False, True):
            ground = with_cards()
            if down:
                ground.down("ha")
            self.assertIsNone(ground.lose("ha"))
            self.assertEqual((ground.drawers("ha"), ground.drawers("hb")), ([], [(2, 0)]))
            self.assertIs(ground.is_up("ha"), not down)
            ground.lose("ha")
            self.assertIsNone(ground.card("ha", KEY))

    def test_take(self):
        ground = with_cards()
        ground.down("ha")
        self.assertIsNone(ground.take("ha", KEY))
        self.assertEqual(ground.drawers("ha"), [(1, 3)])
        self.refused(NoCard, {"house": "ha", "key": KEY}, ground.take, "ha", KEY)
        self.refused(NoCard, {"house": "hc", "key": KEY}, ground.take, "hc", KEY)

    def test_no_name_then_no_house_ahead_of_all_else(self):
        ground = gone_dark(with_cards())
        due = seen(ground)
        calls = (ground.down, ground.up, ground.lose, lambda name: ground.take(name, (9, 9)),
                 lambda name: ground.change(name, (9, 9), at=99, by=1),
                 lambda name: ground.exchange(name, (9, 9), "B", (9, 9)),
                 lambda name: ground.exchange(name, (9, 9), "hx", (9, 9)),
                 lambda name: ground.exchange("ha", (9, 9), name, (9, 9)))
        for asked in calls:
            for name in NO_NAMES:
                self.refused(NoName, {"name": name}, asked, name)
            self.refused(NoHouse, {"name": "hy"}, asked, "hy")
        self.assertEqual(seen(ground), due)

    def test_they_cost_nothing_and_happen_in_the_dark_too(self):
        for ground in (with_cards(), gone_dark(with_cards())):
            ground.lit(fuse=0)
            dark = seen(ground)
            ground.down("ha")
            ground.up("hb")
            ground.change("ha", KEY, at=0, by=1)
            ground.exchange("ha", KEY, "hb", (2, 0))
            ground.take("hb", (2, 0))
            ground.lose("ha")
            self.assertEqual({key: seen(ground)[key] for key in ("dark", "fuse", "written", "turn", "books")},
                             {key: dark[key] for key in ("dark", "fuse", "written", "turn", "books")})
            self.assertEqual(seen(ground)["cards"], {})

    def test_change(self):
        for at in range(3):
            for by in (1, -1, 0, 96, 97, -97, 10 ** 59, -10 ** 59):
                ground = with_cards()
                self.assertIsNone(ground.change("ha", KEY, at=at, by=by))
                due = list(CARD)
                due[3 + at] = (due[3 + at] + by) % 97
                self.assertEqual(ground.card("ha", KEY), tuple(due))
                self.assertEqual(looked(ground.card("ha", KEY), 1, 2), "spoilt" if by % 97 else "whole")
                self.assertEqual(ground.card("ha", (1, 3)), made_card(1, 3, []))

    def test_change_beyond_the_cells(self):
        ground = with_cards()
        due = seen(ground)
        for name, key, at in (("ha", KEY, 3), ("ha", KEY, 4), ("ha", KEY, 99), ("ha", KEY, -1), ("ha", (1, 3), 0),
                              ("ha", (1, 3), 1), ("hb", (2, 0), 1), ("hb", KEY, 0), ("hc", (1, 3), 0)):
            self.refused(NoCard, {"house": name, "key": key}, ground.change, name, key, at=at, by=1)
        self.assertEqual(seen(ground), due)

    def test_change_of_a_torn_card(self):
        """It has as many cells as it should have by its first member, and as lie there."""
        for many in range(1, len(CARD)):
            ground = Ground(["ha"], fuse=many)
            self.refused(Dark, {"written": many}, ground.lay_card, "ha", CARD)
            for at in range(6):
                if at < min(3, many - 3):
                    ground.change("ha", KEY, at=at, by=90)
                    due = list(CARD[:many])
                    due[3 + at] = (due[3 + at] + 90) % 97
                    self.assertEqual(ground.card("ha", KEY), tuple(due))
                    ground.change("ha", KEY, at=at, by=-90)
                else:
                    self.refused(NoCard, {"house": "ha", "key": KEY}, ground.change, "ha", KEY, at=at, by=90)
            self.assertEqual(ground.card("ha", KEY), CARD[:many])

    def test_exchange(self):
        for name, key, other, other_key in (("ha", KEY, "hb", (2, 0)), ("hb", (2, 0), "ha", KEY),
                                            ("ha", KEY, "ha", (1, 3)), ("ha", (1, 3), "ha", KEY)):
            ground = with_cards()
            due = seen(ground)
            cards = due["cards"]
            one, second = (name, key), (other, other_key)
            cards[one], cards[second] = cards[second], cards[one]
            ground.down("ha")
            self.assertIsNone(ground.exchange(name, key, other, other_key))
            ground.up("ha")
            self.assertEqual(seen(ground), due)
            self.assertEqual(looked(ground.card(name, key), *key), "strange")

    def test_exchange_of_one_drawer_with_itself(self):
        ground = with_cards()
        due = seen(ground)
        ground.exchange("ha", KEY, "ha", KEY)
        self.assertEqual(seen(ground), due)
        self.refused(NoCard, {"house": "hb", "key": KEY}, ground.exchange, "hb", KEY, "hb", KEY)

    def test_exchange_of_no_card(self):
        ground = with_cards()
        due = seen(ground)
        self.refused(NoCard, {"house": "hc", "key": KEY}, ground.exchange, "hc", KEY, "hb", (9, 9))
        self.refused(NoCard, {"house": "hb", "key": (9, 9)}, ground.exchange, "ha", KEY, "hb", (9, 9))
        self.refused(NoCard, {"house": "hb", "key": (9, 9)}, ground.exchange, "hb", (9, 9), "ha", KEY)
        self.refused(NoName, {"name": "B"}, ground.exchange, "hc", (9, 9), "B", KEY)
        self.refused(NoHouse, {"name": "hx"}, ground.exchange, "hx", (9, 9), "B", KEY)
        self.assertEqual(seen(ground), due)


class Turns(Grounds):

    def test_lit(self):
        ground = with_cards()
        for turn in range(1, 4):
            gone_dark(ground)
            due = seen(ground)
            self.assertIsNone(ground.lit(fuse=turn + 5))
            due.update(dark=False, fuse=turn + 5, turn=turn)
            self.assertEqual(seen(ground), due)

    def test_lit_without_a_fuse_and_where_it_is_not_dark(self):
        ground = Ground(["ha"], fuse=3)
        ground.lit()
        self.assertEqual((ground.fuse_left(), ground.newest_turn(), ground.is_dark()), (None, 1, False))
        ground.lit(fuse=0)
        self.assertEqual((ground.fuse_left(), ground.newest_turn(), ground.is_dark()), (0, 2, False))

    def test_set_fuse(self):
        ground = with_cards()
        for fuse in (5, 0, 10 ** 59, None):
            due = seen(ground)
            self.assertIsNone(ground.set_fuse(fuse))
            due.update(fuse=fuse)
            self.assertEqual(seen(ground), due)
        ground.set_fuse(7)
        ground.set_fuse()
        self.assertIsNone(ground.fuse_left())
        gone_dark(ground)
        due = seen(ground)
        for fuse in (None, 0, 9):
            self.refused(Dark, {"written": 0}, ground.set_fuse, fuse)
        self.assertEqual(seen(ground), due)

    def test_a_twin(self):
        ground = with_cards()
        ground.lit(fuse=1000)
        ground.strike(0, begin(1, "a"))
        ground.strike(1, row("floor", 1))
        ground.down("hb")
        for one in (ground, gone_dark(ground.twin())):
            twin = one.twin()
            self.assertIsInstance(twin, Ground)
            self.assertEqual(seen(twin), seen(one))

    def test_a_twin_goes_its_own_way(self):
        ground = with_cards()
        for changed, other in ((ground, ground.twin()), (ground.twin(), ground)):
            due = copy.deepcopy(seen(other))
            changed.add_house("hx")
            changed.lay_card("ha", made_card(7, 7, [1]))
            changed.lay_card("hc", made_card(7, 7, [1]))
            changed.take("ha", KEY)
            changed.change("hb", (2, 0), at=0, by=1)
            changed.lose("hb")
            changed.down("ha")
            changed.strike(0, begin(1, "a"))
            changed.empty(1)
            changed.strike(1, row("floor", 1))
            changed.lit(fuse=0)
            gone_dark(changed)
            self.assertEqual(seen(other), due)

    def test_a_twin_of_a_dark_ground_goes_its_own_way(self):
        ground = gone_dark(with_cards())
        twin = ground.twin()
        ground.lit()
        self.assertTrue(twin.is_dark())
        twin.lit(fuse=4)
        self.assertIsNone(ground.fuse_left())


class Drawn(Grounds):

    def test_drawn_histories_told_alike(self):
        """The same done to a ground and to a twin made in the middle tells alike."""
        for seed in range(30):
            draw = random.Random(seed)
            ground = with_cards()
            for _ in range(30):
                twin = ground.twin()
                self.assertEqual(drawn_deed(random.Random(seed), ground), drawn_deed(random.Random(seed), twin))
                self.assertEqual(seen(ground), seen(twin))
                seed = draw.randrange(10 ** 6)


def drawn_deed(draw, ground):
    """Do something to the ground; told is what it was refused with."""
    name, other = draw.choice(["ha", "hb", "hc", "hx"]), draw.choice(["ha", "hb", "hc"])
    key, second = draw.choice([KEY, (1, 3), (2, 0)]), draw.choice([KEY, (1, 3), (2, 0)])
    deeds = [lambda: ground.lay_card(name, made_card(*key, [draw.randrange(97)])), lambda: ground.pull(name, key),
             lambda: ground.exchange(name, key, other, second), lambda: ground.change(name, key, at=0, by=5),
             lambda: ground.take(name, key), lambda: ground.down(name), lambda: ground.up(name),
             lambda: ground.lose(name), lambda: ground.strike(1, row("floor", 1)), lambda: ground.cut_off(1),
             lambda: ground.empty(1), lambda: ground.set_fuse(draw.randrange(20)), lambda: ground.lit(fuse=9)]
    try:
        draw.choice(deeds)()
    except SherdError as refusal:
        return type(refusal), vars(refusal)
    return None


if __name__ == "__main__":
    unittest.main()
