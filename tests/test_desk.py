"""[91] to [96]: the desk's orders, their answers and refusals, its depth and its trail."""

import unittest

from sherdhall.desk import Desk
from sherdhall.errors import (Dark, Down, Lost, NoCard, NoHour, NoHouse, NoLevel, NoMoves, NoObject, NoOrder, NoPlace,
                              NoRoom, NoRow, NoShape, NoTicket, NotEmpty, NoWeight, SherdError, Stale, Stopped, Taken)
from sherdhall.ground import Ground
from sherdhall.keeper import Keeper
from sherdhall.scores import first_set
from sherdhall.store import Store
from sherdhall.town import Town
from grounds import Grounds, gone_dark, seen
from keepers import ROWS, SMALL_SHAPE
from samples import NO_SHAPES, NO_WHOLES, PLAIN

WORDS = ["change", "depth", "down", "drop", "fold", "forget", "fuse", "gone", "hours", "house", "light", "lose",
         "mend", "names", "plan", "put", "read", "rounds", "scrub", "settle", "stairs", "step", "sweep", "table",
         "take", "town", "up", "weigh"]
HOUSE_ORDERS = [f"house {house} {where} {weight}" for house, where, weight in ROWS]
# For each order texts that are such ones, by their words behind the first one.
RIGHT = {
    "change": ["ha 1 0 0 5"], "depth": [""], "down": ["ha"], "drop": ["a"], "fold": [""], "forget": ["0", "9999"],
    "fuse": ["0", "10"], "gone": ["ha"], "hours": ["abcdefgh"], "house": ["hz east 1"], "light": [""], "lose": ["ha"],
    "mend": ["1 0", "1 0 ha"], "names": ["", "0"], "plan": [""], "put": ["a", "a 0", "a 1 96 9999"],
    "read": ["a", "a 1"], "rounds": ["", "1", "9999"], "scrub": [""],
    "settle": ["", "level 0", "moves 9999", "level 1 moves 2"], "stairs": [""], "step": [""], "sweep": [""],
    "table": [""], "take": ["ha 1 0"], "town": [""], "up": ["ha"], "weigh": ["ha 7"],
}
NO_NUMBERS = ["00", "01", "007", "10000", "-1", "+1", "1.0", "x", "1x", "\u0661", "\u00b2", "1\n"]
NO_NAMES = ["A", "a1", "abcdefghi", "a\n", "-", "\u00e4", "1"]
NO_ORDERS = ["", " ", "\n", "Put a", "PUT", "puts a", "exchange ha 1 0 hb 1 0", "begin a", "settle level",
             "settle moves", "settle 1", "settle moves 1 level 1", "settle level 1 moves",
             "settle level 1 level 1", "settle steps 1", "settle level 1 moves 1 level 1", "rounds 0",
             "rounds 1 1", "put", "put 1", "read", "read 1", "mend 1", "mend", "mend ha 1 0", "mend 1 0 1",
             "take ha 1", "change ha 1 0 0", "house ha 1 east", "names a", "names 1 1"]


def row_of(word, rest):
    return word if rest == "" else f"{word} {rest}"


def with_houses(**more):
    """A desk with twelve houses, of rows in four pieces where nothing else is told."""
    desk = Desk(**{"shape": SMALL_SHAPE, **more})
    desk.say_all(HOUSE_ORDERS)
    return desk


def with_plan():
    """A desk with two rows, and a plan since two houses of the first one are down."""
    desk = with_houses()
    desk.say_all(["put a 1 2 3", "put bb 4"])
    homes = desk.keeper.table()
    desk.say_all([f"down {homes[1][0]}", f"down {homes[1][2]}", "settle"])
    return desk


def state_of(desk):
    """All that is told of a desk's parts, but by its trail."""
    keeper = desk.keeper
    store = Store(keeper.store.held.ground.twin()) if not desk.ground.is_dark() else None
    return (seen(desk.ground), keeper.town, keeper.plan(), keeper.store.entries(), store and store.kept())


class Made(Grounds):

    def test_at_first(self):
        desk = Desk()
        self.assertIsInstance(desk.ground, Ground)
        self.assertIsInstance(desk.keeper, Keeper)
        self.assertIs(desk.keeper.store.held.ground, desk.ground)
        self.assertEqual((desk.ground.houses(), desk.keeper.town, desk.keeper.limit()), ([], Town(), 3))
        self.assertEqual((desk.is_open(), desk.depth(), desk.trail()), (True, 0, []))
        self.assertEqual([desk.say(order) for order in ("town", "table", "names", "plan", "stairs")],
                         ["none", "none", "none", "none", "0:0"])

    def test_shape_and_zone(self):
        desk = with_houses()
        desk.say("put a 1")
        self.assertEqual((desk.keeper.store.about(1)[2], desk.keeper.limit()), (SMALL_SHAPE, 2))
        self.assertEqual(with_houses(shape=PLAIN).keeper.limit(), 3)
        self.assertEqual(with_houses(shape=PLAIN, zone=2).keeper.limit(), 2)
        self.assertEqual(with_houses(shape=(1, 1, 0), zone=9).keeper.limit(), 1)

    def test_no_shape(self):
        for shape in NO_SHAPES + [(2, 4, 1), (4, 4, 2)]:
            self.refused(NoShape, {"shape": shape}, Desk, shape=shape)

    def test_order_words(self):
        desk = Desk()
        self.assertEqual(desk.order_words(), WORDS)
        desk.order_words().clear()
        self.assertEqual(desk.order_words(), WORDS)
        self.assertEqual(sorted(RIGHT), WORDS)


class NoOrders(Grounds):

    def setUp(self):
        self.desk = with_plan()

    def no_order(self, row):
        self.refused(NoOrder, {"row": row}, self.desk.say, row)

    def wrong_texts(self):
        """Texts with one word, one blank or one sign otherwise than orders have."""
        out = list(NO_ORDERS)
        for word, rests in RIGHT.items():
            for row in [row_of(word, rest) for rest in rests]:
                words = row.split(" ")
                out += [" " + row, row + " ", "\n" + row, row + "\n", row.upper(), row[1:]]
                out += ["  ".join([" ".join(words[:at]), " ".join(words[at:])]) for at in range(1, len(words))]
                for at in range(1, len(words)):
                    wrong = NO_NUMBERS if words[at].isdigit() else NO_NAMES
                    out += [" ".join(words[:at] + [other] + words[at + 1:]) for other in wrong]
                out.append(row + " zz zz" if word != "put" else row + " zz")
        return out

    def test_what_is_no_order(self):
        before = state_of(self.desk)
        for row in self.wrong_texts():
            with self.subTest(row=row):
                self.no_order(row)
        for thing in NO_WHOLES + [0, 1, ["town"], ("town",), b"town", {"town": 1}, [["town"]]]:
            self.no_order(thing)
        self.assertEqual(state_of(self.desk), before)

    def test_ahead_of_all_else(self):
        for change in (lambda: gone_dark(self.desk.ground), lambda: Store(self.desk.ground)):
            if self.desk.ground.is_dark():
                self.desk.ground.lit()
            change()
            for row in ("put a 01", "read A", "step 1", "rounds 0", "gone abcdefghi", "take ha 1", "fuse", None):
                self.no_order(row)

    def test_what_was_handed_in_is_not_kept(self):
        for row in (["town"], {"town": 1}):
            with self.assertRaises(NoOrder) as caught:
                self.desk.say(row)
            due = row.copy()
            row.clear()
            self.assertEqual(caught.exception.row, due)

    def test_what_is_an_order_is_never_refused_so(self):
        for word, rests in RIGHT.items():
            for rest in rests:
                try:
                    self.assertIs(type(with_plan().say(row_of(word, rest))), str)
                except NoOrder:
                    self.fail(row_of(word, rest))
                except SherdError:
                    pass


class Desks(Grounds):

    def told(self, desk, *pairs):
        """Each order has its answer, one after the other."""
        for row, answer in pairs:
            self.assertEqual((row, desk.say(row)), (row, answer))

    def no(self, desk, row, due, **fields):
        """The order is refused, and changes nothing."""
        before = state_of(desk)[:3]
        self.refused(due, fields, desk.say, row)
        self.assertEqual(state_of(desk)[:3], before)


class Houses(Desks):

    def test_house(self):
        desk = Desk()
        self.told(desk, ("house hb west 5", "ok"), ("house ha east 0", "ok"), ("town", "ha@east*0 hb@west*5"))
        self.assertEqual((desk.ground.houses(), desk.keeper.town),
                         (["ha", "hb"], Town([("hb", "west", 5), ("ha", "east", 0)])))
        self.no(desk, "house hc west 1001", NoWeight, weight=1001)
        self.no(desk, "house ha west 9999", NoWeight, weight=9999)
        self.no(desk, "house ha west 1", Taken, name="ha")
        self.told(desk, ("house hc west 1000", "ok"), ("gone ha", "ok"), ("town", "hb@west*5 hc@west*1000"))
        self.assertEqual(desk.ground.houses(), ["ha", "hb", "hc"])
        self.told(desk, ("house ha south 3", "ok"), ("town", "ha@south*3 hb@west*5 hc@west*1000"))
        self.assertEqual(desk.ground.houses(), ["ha", "hb", "hc"])

    def test_weigh(self):
        desk = with_houses()
        self.told(desk, ("weigh ha 0", "ok"), ("weigh hb 1000", "ok"))
        self.assertEqual([desk.keeper.town.weight_of(name) for name in ("ha", "hb", "hc")], [0, 1000, 3])
        self.no(desk, "weigh hz 9999", NoHouse, name="hz")
        self.no(desk, "weigh ha 1001", NoWeight, weight=1001)

    def test_gone(self):
        desk = with_houses()
        desk.say("put a 1 2 3")
        desk.say("put a 1 2 3")
        homes = desk.keeper.table()[1]
        empty = [name for name in desk.ground.houses() if name not in homes][0]
        self.no(desk, f"gone {homes[0]}", NotEmpty, name=homes[0], many=2)
        self.told(desk, (f"gone {empty}", "ok"))
        self.assertEqual(desk.keeper.town, Town(ROWS).without(empty))
        self.no(desk, f"gone {empty}", NoHouse, name=empty)
        self.no(desk, "gone zz", NoHouse, name="zz")
        self.told(desk, (f"mend 1 0 {[name for name in desk.ground.houses() if name not in homes + [empty]][0]}", "0"))
        self.no(desk, f"gone {homes[0]}", NotEmpty, name=homes[0], many=1)
        # A house whose pieces are of no kept ticket any more is empty.
        desk.say_all(["drop a", "forget 3"])
        self.told(desk, (f"gone {homes[0]}", "ok"))
        Store(desk.ground)
        self.no(desk, f"gone {empty}", NoHouse, name=empty)
        self.no(desk, f"gone {homes[1]}", Stale, turn=desk.ground.newest_turn())
        desk.say("light")
        gone_dark(desk.ground)
        self.refused(NoHouse, {"name": empty}, desk.say, f"gone {empty}")
        self.refused(Dark, {"written": 0}, desk.say, f"gone {homes[1]}")

    def test_faults(self):
        desk = with_houses()
        desk.say("put a 1 2 3")
        homes = desk.keeper.table()[1]
        self.told(desk, (f"down {homes[0]}", "ok"), ("scrub", f"1/0:{homes[0]}:down"), (f"up {homes[0]}", "ok"),
                  ("scrub", "none"), (f"lose {homes[1]}", "ok"), ("scrub", f"1/1:{homes[1]}:gone"),
                  (f"change {homes[0]} 1 0 1 97", "ok"), ("scrub", f"1/1:{homes[1]}:gone"),
                  (f"change {homes[0]} 1 0 1 96", "ok"), ("scrub", f"1/0:{homes[0]}:spoilt 1/1:{homes[1]}:gone"),
                  (f"take {homes[0]} 1 0", "ok"), ("scrub", f"1/0:{homes[0]}:gone 1/1:{homes[1]}:gone"))
        for word in ("lose zz", "down zz", "up zz", "take zz 1 0", "change zz 1 0 0 1"):
            self.no(desk, word, NoHouse, name="zz")
        for word in (f"take {homes[0]} 1 0", f"change {homes[0]} 1 0 0 1"):
            self.no(desk, word, NoCard, house=homes[0], key=(1, 0))
        self.no(desk, f"change {homes[2]} 1 2 2 1", NoCard, house=homes[2], key=(1, 2))
        # A house of the ground that has gone out of the town is still one of the ground.
        other = [name for name in desk.ground.houses() if name not in homes][0]
        self.told(desk, (f"gone {other}", "ok"), (f"down {other}", "ok"))
        self.assertFalse(desk.ground.is_up(other))

    def test_fuse_and_light(self):
        desk = with_plan()
        town, keeper, turn = desk.keeper.town, desk.keeper, desk.ground.newest_turn()
        self.told(desk, ("fuse 5", "ok"))
        self.assertEqual(desk.ground.fuse_left(), 5)
        self.refused(Dark, {"written": 5}, desk.say, "put ccc 1")
        for row in ("fuse 9", "put ccc 1", "read a", "drop a", "names", "hours a", "table", "scrub", "mend 1 0",
                    "sweep", "forget 0", "fold", "settle", "stairs", "step"):
            self.refused(Dark, {"written": 0}, desk.say, row)
        self.told(desk, ("depth", "1"), ("weigh hc 2", "ok"), ("house hz east 1", "ok"), ("up ha", "ok"),
                  ("light", "ok"))
        self.assertEqual((desk.ground.is_dark(), desk.ground.fuse_left()), (False, None))
        self.assertIsNot(desk.keeper, keeper)
        self.assertIs(desk.keeper.store.held.ground, desk.ground)
        self.assertEqual((desk.ground.newest_turn(), desk.keeper.town),
                         (turn + 2, town.weighing("hc", 2).with_house("hz", "east", 1)))
        self.told(desk, ("plan", "none"), ("step", "none"), ("read a", "1 2 3"), ("put ccc 1", "3"))
        # The begin row of what fell ahead was cut off, so its ticket comes now.
        self.assertEqual((desk.keeper.store.about(3)[2], desk.keeper.limit()), (SMALL_SHAPE, 2))

    def test_light_where_nothing_is_dark(self):
        desk = with_plan()
        self.assertNotEqual(desk.say("plan"), "none")
        self.told(desk, ("fuse 50", "ok"), ("light", "ok"), ("plan", "none"), ("read bb", "4"))
        self.assertIsNone(desk.ground.fuse_left())
        Store(desk.ground)
        self.refused(Stale, {"turn": desk.ground.newest_turn()}, desk.say, "read bb")
        self.told(desk, ("light", "ok"), ("read bb", "4"))


class Rows(Desks):

    def test_put_read_drop(self):
        desk = with_houses()
        self.told(desk, ("put a 0 96 5", "1"), ("put a", "2"), ("put bb 7", "3"), ("read a", "none"),
                  ("read a 1", "0 96 5"), ("read a 2", "none"), ("drop bb", "4"), ("read bb 3", "7"))
        self.no(desk, "read bb", NoObject, name="bb")
        self.no(desk, "drop bb", NoObject, name="bb")
        self.no(desk, "read bb 5", NoHour, hour=5)
        self.no(desk, "put a 97", NoRow, at=0)
        self.no(desk, "put a 1 2 9999 98", NoRow, at=2)
        self.no(desk, "put a" + " 1" * 61, NoRow, at=None)
        self.told(desk, ("put a" + " 1" * 60, "5"), ("read a", " ".join(["1"] * 60)))
        self.assertEqual(desk.keeper.store.about(1)[3], first_set(Town(ROWS), "a", pieces=4, zone=2))

    def test_no_room_and_lost(self):
        desk = with_houses()
        desk.say("put a 1 2")
        homes = desk.keeper.table()[1]
        for name in desk.ground.houses():
            desk.say(f"down {name}")
        self.no(desk, "put a 97", NoRow, at=0)
        self.no(desk, "put a 1", NoRoom, name="a", need=4, have=0)
        self.no(desk, "read a", Lost, name="a", ticket=1, lacking=[0, 1, 2, 3])
        self.no(desk, "settle", NoRoom, name=1, need=4, have=0)
        self.no(desk, "stairs", NoRoom, name=1, need=4, have=0)
        self.no(desk, "mend 1 0", Down, name=homes[0])

    def test_names_and_hours(self):
        desk = with_houses()
        self.told(desk, ("put bb 1", "1"), ("put a 2", "2"), ("drop bb", "3"), ("put a 3", "4"), ("names", "a"),
                  ("names 2", "a bb"), ("names 0", "none"), ("names 4", "a"), ("hours a", "2:2 4:3"),
                  ("hours bb", "1:1 3:-"), ("hours zz", "none"))
        self.no(desk, "names 5", NoHour, hour=5)

    def test_table(self):
        desk = with_houses()
        desk.say_all(["put a 1", "put bb 2"])
        table = desk.keeper.table()
        self.told(desk, ("table", " ".join(f"{ticket}:" + ",".join(table[ticket]) for ticket in (1, 2))))

    def test_care(self):
        desk = with_houses()
        desk.say_all(["put a 1 2 3", "put a 4"])
        homes = desk.keeper.table()[1]
        free = [name for name in desk.ground.houses() if name not in homes]
        self.told(desk, (f"lose {homes[0]}", "ok"), ("mend 1 0", "1 2"), ("mend 1 0", "0"), ("sweep", "0"),
                  (f"mend 1 0 {free[0]}", "0"), ("sweep", "1"), ("sweep", "0"), ("forget 1", "none"),
                  ("forget 2", "1"), ("fold", "4"), ("mend 2 0", "1 2"))
        self.assertEqual(desk.keeper.table(), {2: homes})
        self.no(desk, "mend 1 0", NoTicket, ticket=1)
        self.no(desk, "mend 2 4", NoPlace, place=4)
        self.no(desk, "mend 2 0 zz", NoHouse, name="zz")
        self.no(desk, f"mend 2 0 {homes[1]}", Taken, name=homes[1])
        self.no(desk, "forget 3", NoHour, hour=3)


class Settlings(Desks):

    def test_settle_plan_step_rounds(self):
        desk = with_plan()
        plan = desk.keeper.plan()
        words = [f"{ticket}/{place}:->{house}" for ticket, place, _, house in plan]
        self.assertTrue(len(plan) >= 2)
        self.told(desk, ("plan", " ".join(words)), ("settle", f"level 1 moves {len(plan)}"),
                  ("settle level 3", f"level 3 moves {len(plan)}"), ("settle moves 9", f"level 1 moves {len(plan)}"),
                  ("settle level 1 moves 9", f"level 1 moves {len(plan)}"), ("stairs", f"1:{len(plan)}"))
        self.no(desk, "settle level 0", NoLevel, level=0, least=1)
        self.no(desk, "settle moves 0", NoMoves, most=0, least=len(plan))
        self.no(desk, "settle level 0 moves 0", NoLevel, level=0, least=1)
        self.no(desk, "settle level 2 moves 0", NoMoves, most=0, least=len(plan))
        plan = desk.keeper.plan()
        words = [f"{ticket}/{place}:->{house}" for ticket, place, _, house in plan]
        for at, word in enumerate(words):
            self.told(desk, ("step", word), ("plan", " ".join(words[at + 1:]) or "none"))
        self.told(desk, ("step", "none"), ("plan", "none"), ("rounds", "none"), ("rounds 1", "none"))

    def test_moves_from_usable_houses(self):
        desk = with_houses()
        desk.say_all(["put a 1", "put a 2", "put a 3"])
        self.assertTrue(desk.say("stairs").startswith("1:"))
        for house, _, _ in ROWS:
            desk.say(f"weigh {house} 1")
        told = desk.say("settle")
        plan = desk.keeper.plan()
        self.assertEqual(told, f"level 1 moves {len(plan)}")
        self.assertEqual(desk.say("plan"), " ".join(f"{ticket}/{place}:{source}>{house}"
                                                    for ticket, place, source, house in plan))
        self.assertEqual(len(desk.say("stairs").split(" ")), 3)

    def test_rounds(self):
        desk = with_houses()
        desk.say_all(["put a 1", "put a 2", "put a 3", "put a 4"])
        for house, _, _ in ROWS:
            desk.say(f"weigh {house} 1")
        desk.say("settle level 2")
        words = desk.say("plan").split(" ")
        one, two, many = desk.say("rounds 1"), desk.say("rounds"), desk.say("rounds 9")
        self.assertEqual(many, " ".join(words))
        self.assertEqual(desk.say("rounds 2"), two)
        self.assertEqual((len(one.split(" + ")), len(two.split(" + "))), (2, 1))
        self.assertEqual(sorted(one.replace(" + ", " ").split(" ")), sorted(words))

    def test_step_refused_keeps_the_plan(self):
        desk = with_plan()
        plan = desk.say("plan")
        house = desk.keeper.plan()[0][3]
        desk.say(f"down {house}")
        self.no(desk, "step", Down, name=house)
        self.told(desk, ("plan", plan), (f"up {house}", "ok"), ("step", plan.split(" ")[0]))


class Turns(Desks):

    def test_depth(self):
        desk = with_houses()
        self.assertEqual((desk.say("depth"), desk.say_all(["depth", "town", "depth"])[::2], desk.say("depth")),
                         ("1", ["2", "2"], "1"))
        self.assertEqual((desk.is_open(), desk.depth()), (True, 0))

    def test_not_open_within_an_order(self):
        desk, told = Desk(), []

        class Watched(Ground):

            def add_house(self, name):
                told.append((desk.is_open(), desk.depth(), desk.trail()[-1]))
                Ground.add_house(self, name)

        desk.ground = Watched([])
        desk.say("house ha a 1")
        desk.say_all(["house hb a 1"])
        self.assertEqual(told, [(False, 1, ("in", 1)), (False, 2, ("in", 2))])
        self.assertTrue(desk.is_open())

    def test_several(self):
        desk = Desk(shape=SMALL_SHAPE)
        self.assertEqual(desk.say_all([]), [])
        orders = HOUSE_ORDERS + ["put a 1 2", "read a", "put a", "read a"]
        handed = list(orders)
        told = desk.say_all(orders)
        self.assertIs(type(told), list)
        self.assertEqual((told, orders), (["ok"] * 12 + ["1", "1 2", "2", "none"], handed))

    def test_stopped(self):
        for orders, number, due, fields in (
                (["put a 1", "read a", "drop bb", "put a 2"], 2, NoObject, {"name": "bb"}),
                (["put a 1", "Read a", "drop bb", "put a 2"], 1, NoOrder, {"row": "Read a"}),
                (["put a 97", "put a 2"], 0, NoRow, {"at": 0}),
                (["put a 1", None, "put a 2"], 1, NoOrder, {"row": None}),
                (["put a 1", ["put a 2"]], 1, NoOrder, {"row": ["put a 2"]})):
            desk = with_houses()
            self.refused(Stopped, {"number": number, "row": orders[number]}, desk.say_all, orders)
            try:
                desk.say_all(orders)
            except Stopped as refusal:
                self.assertIs(type(refusal.__cause__), due)
                self.assertEqual(vars(refusal.__cause__), fields)
            self.assertEqual(desk.say("hours a"), "1:1 2:2" if number > 0 else "none")

    def test_a_deed_cut_in_several(self):
        desk = with_houses()
        with self.assertRaises(Stopped) as caught:
            desk.say_all(["put a 1", "fuse 3", "put a 2", "light", "put a 3"])
        self.assertEqual(vars(caught.exception), {"number": 2, "row": "put a 2"})
        self.assertEqual(vars(caught.exception.__cause__), {"written": 3})
        self.assertTrue(desk.ground.is_dark())
        self.assertEqual(desk.say_all(["light", "read a", "put a 3"]), ["ok", "1", "2"])

    def test_trail(self):
        desk = Desk(shape=SMALL_SHAPE)
        one = [("in", 1), ("out", 1)]
        due = []
        for row in ("town", "house ha a 1", "read a", None, "", [], "house ha a 1"):
            try:
                desk.say(row)
            except SherdError:
                pass
            due += one
            self.assertEqual((desk.trail(), desk.is_open(), desk.depth()), (due, True, 0))
        for orders, begun in (([], 0), (["town"], 1), (["town", "depth"], 2), (["town", "read a", "town"], 2),
                              ([None, "town"], 1), (["drop a"], 1)):
            try:
                desk.say_all(orders)
            except Stopped:
                pass
            due += [("in", 1)] + [("in", 2), ("out", 2)] * begun + [("out", 1)]
            self.assertEqual((desk.trail(), desk.is_open(), desk.depth()), (due, True, 0))
        desk.trail().clear()
        self.assertEqual(desk.trail(), due)

    def test_whatever_comes_of_an_order(self):
        """Also where a part fails in a way that is no refusal."""
        desk = with_houses()

        class Broken(Ground):

            def down(self, name):
                raise ZeroDivisionError

        desk.ground = Broken(["ha"])
        before = desk.trail()
        for asked in (lambda: desk.say("down ha"), lambda: desk.say_all(["town", "down ha", "town"])):
            with self.assertRaises(ZeroDivisionError):
                asked()
            self.assertEqual((desk.is_open(), desk.depth()), (True, 0))
        two = [("in", 2), ("out", 2)]
        self.assertEqual(desk.trail(), before + [("in", 1), ("out", 1), ("in", 1)] + two + two + [("out", 1)])


if __name__ == "__main__":
    unittest.main()
