"""[85] to [88]: the keeper, its puts by first sets, its table, its plan, and its steps."""

import random
import unittest

from sherdhall.cards import made_card
from sherdhall.care import forget, mend, sweep
from sherdhall.errors import (Dark, Down, Lost, NoBook, NoHour, NoLevel, NoMoves, NoName, NoObject, NoRoom, NoRow,
                              NoShape, SherdError, Stale, Taken)
from sherdhall.ground import Ground
from sherdhall.keeper import ZONE, Keeper
from sherdhall.moves import moved, moves_of
from sherdhall.scores import first_set
from sherdhall.settling import Settling, settle
from sherdhall.store import Store
from sherdhall.town import Town
from grounds import NO_NAMES, Grounds, gone_dark, seen
from keepers import NAMES, ROWS, SMALL_SHAPE, made_keeper
from oracle import HOUSES
from samples import NO_SHAPES, NO_WHOLES, PLAIN, SHAPES
from stores import written_by

NO_ROWS = [thing for thing in NO_WHOLES if not isinstance(thing, list)] + [(1, 2), 7]
UP_TO_TEN = [shape for shape in SHAPES if shape[0] * (shape[1] + 1) + shape[2] <= 10]


def small(**more):
    """A ground and a keeper of rows in four pieces."""
    return made_keeper(shape=SMALL_SHAPE, **more)


def with_plan(**more):
    """A ground and a keeper with two rows, of which a plan has moves since two of their houses went down."""
    ground, keeper = small(**more)
    keeper.put("a", [1, 2, 3])
    keeper.put("bb", [4])
    ground.down(keeper.table()[1][0])
    ground.down([house for house in keeper.table()[2] if ground.is_up(house)][1])
    keeper.resettle()
    return ground, keeper


class Made(Grounds):

    def test_fields(self):
        ground, keeper = made_keeper()
        self.assertIsInstance(keeper.store, Store)
        self.assertEqual(keeper.town, Town(ROWS))
        self.assertEqual((keeper.plan(), keeper.table(), ground.newest_turn()), ([], {}, 1))
        keeper.put("a", [1])
        self.assertEqual(len(keeper.table()[1]), 10)

    def test_no_shape_ahead_of_dark_and_no_book(self):
        dark, empty = gone_dark(Ground(HOUSES)), Ground(HOUSES)
        empty.empty(0)
        for ground in (dark, empty, Ground(HOUSES)):
            before = seen(ground)
            for shape in NO_SHAPES:
                self.refused(NoShape, {"shape": shape}, Keeper, ground, Town(), shape=shape)
            for shape in SHAPES:
                if shape not in UP_TO_TEN:
                    self.refused(NoShape, {"shape": shape}, Keeper, ground, Town(), shape=shape)
            self.assertEqual(seen(ground), before)
        self.refused(Dark, {"written": 0}, Keeper, dark, Town())
        self.refused(NoBook, {"at": 0}, Keeper, empty, Town())

    def test_limit(self):
        self.assertEqual(ZONE, 3)
        for shape in UP_TO_TEN:
            self.assertEqual(Keeper(Ground([]), Town(), shape=shape).limit(), min(3, shape[2] + 1))
            for zone in (1, 2, 3, 4, 10 ** 59):
                self.assertEqual(Keeper(Ground([]), Town(), shape=shape, zone=zone).limit(), min(zone, shape[2] + 1))
        self.assertEqual(Keeper(Ground([]), Town(), zone=2).limit(), 2)

    def test_use(self):
        ground, keeper = small()
        other = Town(ROWS[:6])
        self.assertIsNone(keeper.use(other))
        self.assertEqual((keeper.town, keeper.usable()), (other, other))

    def test_usable(self):
        rows = [("ha", "east", 1), ("hb", "east", 0), ("hc", "west", 2), ("zz", "west", 3), ("hd", "west", 1)]
        ground, keeper = made_keeper(rows=rows, houses=["ha", "hb", "hc", "hd", "he"])
        due = [rows[0], rows[2], rows[4]]
        self.assertEqual(keeper.usable(), Town(due))
        ground.down("hc")
        self.assertEqual(keeper.usable(), Town([due[0], due[2]]))
        ground.down("he")
        ground.lose("hd")
        ground.add_house("zz")
        ground.up("hc")
        self.assertEqual(keeper.usable(), Town(due + [("zz", "west", 3)]))
        keeper.use(Town([("he", "east", 1), ("hb", "east", 9)]))
        self.assertEqual(keeper.usable(), Town([("hb", "east", 9)]))
        gone_dark(ground)
        self.assertEqual((keeper.usable(), keeper.limit()), (Town([("hb", "east", 9)]), 3))
        self.assertEqual(keeper.town, Town([("he", "east", 1), ("hb", "east", 9)]))


class Puts(Grounds):

    def test_homes_are_the_first_set_of_the_usable_houses(self):
        for seed in range(25):
            draw = random.Random(seed)
            shape = draw.choice([PLAIN, SMALL_SHAPE, (1, 1, 0), (2, 1, 1)])
            ground, keeper = made_keeper(shape=shape, zone=draw.choice([1, 2, 3]))
            pieces = shape[0] * (shape[1] + 1) + shape[2]
            for turn in range(8):
                ground.down(draw.choice(HOUSES)) if turn % 3 == 2 else ground.up(draw.choice(HOUSES))
                name, row = draw.choice(NAMES), [draw.randrange(97) for _ in range(draw.randrange(20))]
                usable = Town([one for one in ROWS if ground.is_up(one[0])])
                try:
                    due = first_set(usable, name, pieces=pieces, zone=min(keeper.limit(), 3))
                except NoRoom as refusal:
                    self.refused(NoRoom, vars(refusal), keeper.put, name, row)
                    continue
                hour = keeper.put(name, row)
                ticket = keeper.store.kept()[-1]
                self.assertEqual(keeper.store.hours(name)[-1], (hour, ticket))
                self.assertEqual(keeper.store.about(ticket), (name, len(row), shape, due))
                self.assertEqual(keeper.read(name), row)

    def test_it_is_put_as_the_store_does(self):
        ground, keeper = small()
        twin = ground.twin()
        homes = first_set(Town(ROWS), "a", pieces=4, zone=2)
        row = [5, 6, 7]
        self.assertEqual(keeper.put("a", row), Store(twin).put("a", row, homes=homes, shape=SMALL_SHAPE))
        self.assertEqual({**seen(ground), "turn": 0}, {**seen(twin), "turn": 0})
        self.assertEqual(row, [5, 6, 7])
        row.clear()
        self.assertEqual(keeper.read("a"), [5, 6, 7])

    def test_read_and_drop_are_the_stores(self):
        ground, keeper = small()
        self.assertEqual((keeper.put("a", [1]), keeper.put("a", [2]), keeper.drop("a")), (1, 2, 3))
        self.assertEqual((keeper.read("a", at=1), keeper.read("a", at=2)), ([1], [2]))
        for asked in (keeper.read, keeper.drop):
            self.refused(NoObject, {"name": "a"}, asked, "a")
            self.refused(NoName, {"name": "A"}, asked, "A")
        self.refused(NoHour, {"hour": 4}, keeper.read, "a", at=4)
        for house in HOUSES:
            ground.lose(house)
        self.refused(Lost, {"name": "a", "ticket": 1, "lacking": [0, 1, 2, 3]}, keeper.read, "a", at=1)

    def test_no_name_then_no_row_then_no_room(self):
        ground, keeper = small(rows=[])
        before = seen(ground)
        for name in NO_NAMES:
            self.refused(NoName, {"name": name}, keeper.put, name, [97])
        for row in NO_ROWS:
            self.refused(NoRow, {"at": None}, keeper.put, "a", row)
        self.refused(NoRow, {"at": None}, keeper.put, "a", [0] * 61)
        self.refused(NoRow, {"at": 1}, keeper.put, "a", [5, 97])
        self.refused(NoRoom, {"name": "a", "need": 4, "have": 0}, keeper.put, "a", [5])
        self.assertEqual((seen(ground), keeper.table()), (before, {}))

    def test_stale_then_dark_ahead_of_all(self):
        ground, keeper = small(rows=[])
        gone_dark(ground)
        for name, row in (("A", [97]), ("a", None), ("a", [97]), ("a", [])):
            self.refused(Dark, {"written": 0}, keeper.put, name, row)
        ground.lit()
        for change in (lambda: None, lambda: gone_dark(ground)):
            change()
            for name, row in (("A", [97]), ("a", None), ("a", [97]), ("a", [])):
                self.refused(Stale, {"turn": 2}, keeper.put, name, row)

    def test_no_room(self):
        ground, keeper = small(rows=ROWS[:5] + ROWS[5:7], zone=1)
        for at, have in enumerate((5, 5, 5, 4, 3, 2)):
            self.assertEqual(sum(1 for _ in keeper.usable().zone_names()), have)
            if have < 4:
                self.refused(NoRoom, {"name": "tides", "need": 4, "have": have}, keeper.put, "tides", [1])
            else:
                keeper.put("tides", [1])
            # First houses in whose zones there is another one, then the last ones of their zones.
            ground.down(["ha", "hb", "hc", "hd", "he", "hf"][at])

    def test_a_put_that_goes_dark(self):
        base, _ = small()
        cost = written_by(base.twin(), lambda ground: Keeper(ground, Town(ROWS), shape=SMALL_SHAPE).put("a", [1, 2, 3]))
        self.assertEqual(cost, 12 + 4 * 7 + 4)
        for fuse in range(cost + 2):
            ground = base.twin()
            keeper = Keeper(ground, Town(ROWS), shape=SMALL_SHAPE)
            ground.set_fuse(fuse)
            if fuse >= cost:
                self.assertEqual(keeper.put("a", [1, 2, 3]), 1)
            else:
                with self.assertRaises(Dark):
                    keeper.put("a", [1, 2, 3])
                self.assertTrue(ground.is_dark())
            ground.lit()
            self.refused(Stale, {"turn": ground.newest_turn()}, keeper.read, "a")
            anew = Keeper(ground, Town(ROWS), shape=SMALL_SHAPE)
            self.assertEqual(anew.store.hours("a"), [(1, 1)] if fuse >= cost else [])


class Tables(Grounds):

    def test_homes_of_all_kept_tickets(self):
        ground, keeper = small()
        for number in range(4):
            keeper.put("a", [number])
        keeper.put("bb", [])
        keeper.drop("bb")
        store = keeper.store
        self.assertEqual(keeper.table(), {ticket: store.about(ticket)[3] for ticket in (1, 2, 3, 4, 5)})
        store.begin("ccc", [], homes=HOUSES[:4], shape=SMALL_SHAPE)
        mend(store, 2, 1, into=[house for house in HOUSES if house not in store.about(2)[3]][0])
        forget(store, 4)
        self.assertEqual(keeper.table(), {ticket: store.about(ticket)[3] for ticket in (4, 5)})
        forget(store, 6)
        self.assertEqual(keeper.table(), {4: store.about(4)[3]})

    def test_the_askers_own(self):
        ground, keeper = with_plan()
        due, plan = keeper.table(), keeper.plan()
        for homes in keeper.table().values():
            homes.clear()
        keeper.table().clear()
        keeper.plan().clear()
        self.assertEqual((keeper.table(), keeper.plan()), (due, plan))
        self.assertTrue(len(plan) > 1)


class Plans(Grounds):

    def test_resettle_tells_the_settling_in_the_usable_houses(self):
        for seed in range(30):
            draw = random.Random(seed)
            ground, keeper = small(zone=draw.choice([1, 2, 3]))
            for _ in range(draw.randrange(6)):
                keeper.put(draw.choice(NAMES), [1])
            for _ in range(draw.randrange(5)):
                ground.down(draw.choice(HOUSES))
            keeper.use(Town([(house, where, draw.randrange(3)) for house, where, _ in ROWS]))
            town, table, before, plan = keeper.usable(), keeper.table(), seen(ground), keeper.plan()
            handed = draw.choice([{}, {"level": draw.randrange(4)}, {"moves": draw.randrange(9)},
                                  {"level": draw.randrange(1, 4), "moves": draw.randrange(9)}])
            try:
                due = settle(town, table, zone=keeper.limit(), **handed)
            except SherdError as refusal:
                self.refused(type(refusal), vars(refusal), keeper.resettle, **handed)
                self.assertEqual(keeper.plan(), plan)
                continue
            told = keeper.resettle(**handed)
            self.assertIsInstance(told, Settling)
            self.assertEqual(vars(told), vars(due))
            self.assertEqual(keeper.plan(), moves_of(town, table, due.settled))
            self.assertEqual(seen(ground), before)

    def test_where_it_is_refused_the_plan_stays(self):
        ground, keeper = with_plan()
        plan = keeper.plan()
        least = sum(not ground.is_up(home) for homes in keeper.table().values() for home in homes)
        self.refused(NoLevel, {"level": 0, "least": 1}, keeper.resettle, level=0)
        self.refused(NoMoves, {"most": 0, "least": least}, keeper.resettle, moves=0)
        self.refused(NoMoves, {"most": 1, "least": least}, keeper.resettle, level=9, moves=1)
        keeper.use(Town())
        self.refused(NoRoom, {"name": 1, "need": 4, "have": 0}, keeper.resettle)
        self.assertEqual(keeper.plan(), plan)

    def test_another_town_leaves_it_and_another_settling_does_not(self):
        ground, keeper = with_plan()
        plan = keeper.plan()
        keeper.use(Town(ROWS[:8]))
        self.assertEqual(keeper.plan(), plan)
        keeper.use(Town(ROWS))
        for house in HOUSES:
            ground.up(house)
        self.assertEqual(keeper.resettle(level=9).many, 0)
        self.assertEqual(keeper.plan(), [])

    def test_a_keeper_made_anew_has_no_plan(self):
        ground, keeper = with_plan()
        anew = Keeper(ground, Town(ROWS), shape=SMALL_SHAPE)
        self.assertEqual((anew.plan(), anew.table()), ([], anew.table()))
        self.assertIsNone(anew.step())

    def test_from_is_none_where_the_house_is_not_usable(self):
        ground, keeper = with_plan()
        self.assertTrue(all(source is None for _, _, source, _ in keeper.plan()))
        ground, keeper = small()
        keeper.put("a", [1])
        first, second = keeper.table()[1][:2]
        keeper.use(Town(ROWS).weighing(first, 0))
        keeper.resettle()
        self.assertEqual([move[:3] for move in keeper.plan()], [(1, 0, None)])
        keeper.use(Town(ROWS).without(second))
        keeper.resettle()
        self.assertEqual([move[:3] for move in keeper.plan()], [(1, 1, None)])


class Steps(Grounds):

    def test_each_does_the_first_move(self):
        ground, keeper = with_plan()
        plan = keeper.plan()
        while plan:
            before = keeper.table()
            ticket, place, _, house = plan[0]
            self.assertEqual(keeper.step(), plan[0])
            self.assertEqual(keeper.table(), moved(before, plan[:1]))
            self.assertIsNotNone(ground.card(house, (ticket, place)))
            plan = plan[1:]
            self.assertEqual(keeper.plan(), plan)
        before = seen(ground)
        self.assertIsNone(keeper.step())
        self.assertEqual(seen(ground), before)
        self.assertEqual((keeper.read("a"), keeper.read("bb")), ([1, 2, 3], [4]))
        self.assertEqual(keeper.resettle().many, 0)

    def test_it_writes_what_mend_writes(self):
        ground, keeper = with_plan()
        twin = ground.twin()
        ticket, place, _, house = keeper.step()
        mend(Store(twin), ticket, place, into=house)
        self.assertEqual({**seen(ground), "turn": 0}, {**seen(twin), "turn": 0})

    def test_moves_of_tickets_that_are_kept_no_more(self):
        ground, keeper = with_plan()
        plan = keeper.plan()
        self.assertEqual(sorted({move[0] for move in plan}), [1, 2])
        keeper.drop("a")
        forget(keeper.store, 3)
        self.assertEqual(keeper.plan(), plan)
        left = [move for move in plan if move[0] == 2]
        self.assertEqual((keeper.step(), keeper.plan()), (left[0], left[1:]))
        self.assertEqual([keeper.step() for _ in left], [*left[1:], None])

    def test_moves_that_are_done_already(self):
        ground, keeper = with_plan()
        plan = keeper.plan()
        last = plan[-1]
        for ticket, place, _, house in plan[:1] + [last]:
            mend(keeper.store, ticket, place, into=house)
        self.assertEqual(keeper.plan(), plan)
        due = plan[1:-1]
        self.assertEqual(keeper.step(), due[0] if due else None)
        self.assertEqual(keeper.plan(), due[1:])

    def test_a_step_that_is_refused_keeps_the_plan(self):
        ground, keeper = with_plan()
        plan = keeper.plan()
        ticket, place, _, house = plan[0]
        ground.down(house)
        self.refused(Down, {"name": house}, keeper.step)
        self.assertEqual(keeper.plan(), plan)
        ground.up(house)
        other = (place + 1) % 4
        home = keeper.table()[ticket][other]
        mend(keeper.store, ticket, other, into=house)
        self.refused(Taken, {"name": house}, keeper.step)
        self.assertEqual(keeper.plan(), plan)
        mend(keeper.store, ticket, other, into=home)
        twin = {name: {key: ground.card(name, key) for key in ground.drawers(name)} for name in HOUSES}
        for name in HOUSES:
            ground.lose(name)
        self.refused(Lost, {"name": "a", "ticket": ticket, "lacking": [0, 1, 2, 3]}, keeper.step)
        self.assertEqual(keeper.plan(), plan)
        for name in HOUSES:
            if ground.is_up(name):
                for card in twin[name].values():
                    ground.lay_card(name, card)
        self.assertEqual(keeper.step(), plan[0])

    def test_what_is_left_out_is_so_also_where_the_step_is_refused(self):
        ground, keeper = with_plan()
        plan = keeper.plan()
        keeper.drop("a")
        forget(keeper.store, 3)
        left = [move for move in plan if move[0] == 2]
        self.assertTrue(0 < len(left) < len(plan))
        ground.down(left[0][3])
        self.refused(Down, {"name": left[0][3]}, keeper.step)
        self.assertEqual(keeper.plan(), left)

    def test_a_step_that_goes_dark(self):
        base, keeper = with_plan()
        move = keeper.plan()[0]
        cost = 7 + 5
        for fuse in range(cost + 2):
            ground, keeper = with_plan()
            plan, homes = keeper.plan(), keeper.table()
            ground.set_fuse(fuse)
            if fuse >= cost:
                self.assertEqual((keeper.step(), keeper.plan()), (move, plan[1:]))
            else:
                self.refused(Dark, {"written": fuse if fuse < 7 else fuse - 7}, keeper.step)
                self.assertEqual(keeper.plan(), plan)
                self.refused(Dark, {"written": 0}, keeper.step)
            ground.lit()
            self.refused(Stale, {"turn": ground.newest_turn()}, keeper.step)
            anew = Keeper(ground, Town(ROWS), shape=SMALL_SHAPE)
            self.assertEqual(anew.table(), moved(homes, [move]) if fuse >= cost else homes)
            self.assertEqual((anew.plan(), anew.read("a")), ([], [1, 2, 3]))

    def test_stale_and_dark_ahead_of_all(self):
        for due, fields in ((Dark, {"written": 0}), (Stale, {"turn": 2})):
            for ground, keeper in (small(), with_plan()):
                gone_dark(ground) if due is Dark else Store(ground)
                keeper.use(Town())
                before, plan = seen(ground), keeper.plan()
                for asked in (keeper.table, keeper.resettle, keeper.step, lambda: keeper.resettle(level=0, moves=0)):
                    self.refused(due, fields, asked)
                self.assertEqual((seen(ground), keeper.plan()), (before, plan))
        gone_dark(ground)
        self.refused(Stale, {"turn": 2}, keeper.step)

    def test_cards_left_behind_are_swept(self):
        ground, keeper = small()
        keeper.put("a", [1, 2, 3])
        home = keeper.table()[1][0]
        keeper.use(Town(ROWS).weighing(home, 0))
        keeper.resettle()
        self.assertEqual(keeper.step()[1], 0)
        self.assertEqual(ground.card(home, (1, 0)), made_card(1, 0, [1, 3]))
        self.assertEqual((sweep(keeper.store), ground.card(home, (1, 0))), (1, None))


if __name__ == "__main__":
    unittest.main()
