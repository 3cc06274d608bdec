"""[97] and [4]: drawn orders. The desk tells what its parts tell, and rows are read as they were put, or are lost."""

import random
import unittest

from sherdhall.care import fold, forget, mend, sweep
from sherdhall.desk import Desk
from sherdhall.errors import Dark, Lost, NoObject, NotEmpty, SherdError, Stopped
from sherdhall.ground import Ground
from sherdhall.keeper import Keeper
from sherdhall.mending import is_ghost
from sherdhall.moves import rounds
from sherdhall.scrub import scrub
from sherdhall.settling import stairs
from sherdhall.texts import show_move, show_table, show_town
from sherdhall.town import Town
from grounds import seen
from keepers import NAMES, ROWS
from oracle import HOUSES
from samples import PLAIN
from stores import places_read

SHAPES = [PLAIN, (1, 2, 1), (1, 2, 1), (2, 1, 1), (1, 1, 0)]


class Parts:
    """A ground and a keeper, asked straight for what the orders of a desk tell; told are lists."""

    def __init__(self, shape, zone):
        self.more = {"shape": shape, "zone": zone}
        self.ground = Ground([])
        self.keeper = Keeper(self.ground, Town(), **self.more)

    def house(self, name, zone, weight):
        town = self.keeper.town.with_house(name, zone, weight)
        if name not in self.ground.houses():
            self.ground.add_house(name)
        self.keeper.use(town)

    def weigh(self, name, weight):
        self.keeper.use(self.keeper.town.weighing(name, weight))

    def gone(self, name):
        self.keeper.town.zone_of(name)
        many = sum(homes.count(name) for homes in self.keeper.table().values())
        if many > 0:
            raise NotEmpty(name, many)
        self.keeper.use(self.keeper.town.without(name))

    def light(self):
        self.ground.lit()
        self.keeper = Keeper(self.ground, self.keeper.town, **self.more)

    def settle(self, *told):
        settling = self.keeper.resettle(**{told[at]: told[at + 1] for at in range(0, len(told), 2)})
        return ["level", settling.level, "moves", settling.many]

    def rounds(self, *lanes):
        told = rounds(self.keeper.plan(), lanes=lanes[0]) if lanes else rounds(self.keeper.plan())
        return [" + ".join(" ".join(map(show_move, part)) for part in told)]

    def step(self):
        move = self.keeper.step()
        return [] if move is None else [show_move(move)]

    def stairs(self):
        table = self.keeper.table()
        return [f"{level}:{many}" for level, many in stairs(self.keeper.usable(), table, zone=self.keeper.limit())]

    def say(self, row):
        """The answer to an order that is right, as the document tells it."""
        word, *rest = row.split(" ")
        rest = [int(one) if one.isdigit() else one for one in rest]
        ground, keeper = self.ground, self.keeper
        asked = {
            "house": self.house, "weigh": self.weigh, "gone": self.gone, "light": self.light, "lose": ground.lose,
            "down": ground.down, "up": ground.up, "fuse": ground.set_fuse, "settle": self.settle, "step": self.step,
            "stairs": self.stairs, "rounds": self.rounds,
            "take": lambda name, ticket, place: ground.take(name, (ticket, place)),
            "change": lambda name, ticket, place, at, by: ground.change(name, (ticket, place), at=at, by=by),
            "town": lambda: [show_town(keeper.town)], "table": lambda: [show_table(keeper.table())],
            "put": lambda name, *row: [keeper.put(name, list(row))],
            "read": lambda name, hour=None: keeper.read(name, at=hour),
            "drop": lambda name: [keeper.drop(name)], "names": lambda hour=None: keeper.store.names(at=hour),
            "hours": lambda name: [f"{hour}:{ticket or '-'}" for hour, ticket in keeper.store.hours(name)],
            "scrub": lambda: [f"{one[0]}/{one[1]}:{one[2]}:{one[3]}" for one in scrub(keeper.store)],
            "mend": lambda ticket, place, into=None: mend(keeper.store, ticket, place, into=into),
            "sweep": lambda: [sweep(keeper.store)], "forget": lambda hour: forget(keeper.store, hour),
            "fold": lambda: [fold(keeper.store)], "plan": lambda: [show_move(move) for move in keeper.plan()],
            "depth": lambda: [1],
        }[word]
        told = asked(*rest)
        return "ok" if told is None else " ".join(map(str, told)) or "none"


class History:
    """A desk, its parts asked alike, and what was told as sealed and dropped."""

    def __init__(self, seed, *, zones=(1, 2, 3)):
        self.draw = random.Random(seed)
        self.shape, zone = self.draw.choice(SHAPES), self.draw.choice(zones)
        self.desk = Desk(shape=self.shape, zone=zone)
        self.parts = Parts(self.shape, zone)
        self.past = {name: [(0, None)] for name in NAMES}
        self.floor = 0
        self.hour = 1

    def row(self):
        """A drawn order."""
        draw = self.draw
        word = draw.choice(self.desk.order_words() + ["put"] * 9 + ["read"] * 6 + ["mend", "settle", "step", "up"] * 4)
        name, house = draw.choice(NAMES), draw.choice(HOUSES)
        ticket, place = draw.randrange(1, 9), draw.randrange(5)
        rest = {
            "house": [house, draw.choice(["east", "west", "mid"]), draw.choice([0, 1, 3, 1001])],
            "weigh": [house, draw.choice([0, 1, 2, 5, 1001])], "gone": [house], "lose": [house], "down": [house],
            "up": [house], "take": [house, ticket, place], "change": [house, ticket, place, 0, draw.randrange(1, 97)],
            "fuse": [draw.choice([0, 5, 30, 90])], "drop": [name], "hours": [name], "forget": [draw.randrange(4)],
            "put": [name] + [draw.randrange(97) for _ in range(draw.randrange(20))],
            "read": [name] + draw.choice([[], [draw.randrange(self.hour + 1)]]),
            "names": draw.choice([[], [draw.randrange(self.hour + 1)]]),
            "mend": [ticket, place] + draw.choice([[], [house]]), "rounds": draw.choice([[], [1], [3]]),
            "settle": draw.choice([[], ["level", draw.randrange(5)], ["moves", draw.randrange(20)],
                                   ["level", 2, "moves", draw.randrange(9)]]),
        }.get(word, [])
        return " ".join([word, *map(str, rest)])

    def note(self, row, told):
        """Keep what an order told."""
        word, *rest = row.split(" ")
        if word in ("put", "drop"):
            assert told == str(self.hour)
            self.past[rest[0]].append((self.hour, list(map(int, rest[1:])) if word == "put" else None))
            self.hour += 1
        if word == "forget":
            self.floor = max(self.floor, int(rest[0]))

    def row_at(self, name, hour):
        """The row that was last sealed under the name at the hour, or None."""
        return [row for sealed, row in self.past[name] if sealed <= hour][-1]


def asked_of(teller, row):
    """What is told of an order, or what it was refused with."""
    try:
        return teller.say(row)
    except SherdError as refusal:
        return (type(refusal), vars(refusal))


class Histories(unittest.TestCase):

    def begun(self, history):
        rows = [f"house {house} {where} {weight}" for house, where, weight in ROWS]
        self.assertEqual(history.desk.say_all(rows), [history.parts.say(row) for row in rows])

    def alike(self, history):
        """The desk and its parts are the same."""
        desk, parts = history.desk, history.parts
        self.assertEqual(seen(desk.ground), seen(parts.ground))
        self.assertEqual((desk.keeper.town, desk.keeper.plan()), (parts.keeper.town, parts.keeper.plan()))
        self.assertEqual(desk.keeper.store.entries(), parts.keeper.store.entries())
        self.assertTrue(desk.keeper.store == parts.keeper.store)

    def test_the_desk_tells_what_its_parts_tell(self):
        answers, refusals = set(), set()
        for seed in range(60):
            history = History(seed)
            self.begun(history)
            for _ in range(80):
                lit = history.desk.ground.is_dark() and history.draw.randrange(3) == 0
                row = "light" if lit else history.row()
                told = asked_of(history.desk, row)
                self.assertEqual((row, told), (row, asked_of(history.parts, row)))
                if isinstance(told, str):
                    answers.add(row.split(" ")[0])
                    history.note(row, told)
                else:
                    refusals.add(told[0].__name__)
                self.alike(history)
            self.all_reads(history)
        self.assertEqual(sorted(answers), Desk().order_words())
        self.assertTrue({"Dark", "Down", "Lost", "NoCard", "NoHour", "NoHouse", "NoLevel", "NoMoves", "NoObject",
                         "NoRoom", "NoTicket", "NoWeight", "NotEmpty", "Taken"} <= refusals, refusals)

    def all_reads(self, history):
        """Each read tells the very row, or is refused as lost with a ghost, or the name has no object."""
        desk = history.desk
        if desk.ground.is_dark():
            desk.say("light")
        store = desk.keeper.store
        for name in NAMES:
            for hour in range(history.floor, history.hour):
                due, told = history.row_at(name, hour), asked_of(desk, f"read {name} {hour}")
                if due is None:
                    self.assertEqual(told, (NoObject, {"name": name}))
                elif isinstance(told, str):
                    self.assertEqual(told, " ".join(map(str, due)) or "none")
                else:
                    self.assertIs(told[0], Lost)
                    homes = store.about(told[1]["ticket"])[3]
                    place, ghost = store.why_lost(name, at=hour)
                    left = places_read(desk.ground, told[1]["ticket"], homes)
                    self.assertTrue(is_ghost(ghost, left, place, shape=history.shape))

    def test_rows_through_faults_and_falls(self):
        """As long as faults leave enough of each row, and all is mended behind them, it is read as it was put."""
        reads = falls = 0
        for seed in range(30):
            history = History(seed + 500, zones=[3])
            desk, draw = history.desk, history.draw
            self.begun(history)
            for turn in range(25):
                if draw.randrange(4) == 0:
                    desk.say(f"fuse {draw.randrange(60)}")
                orders = [f"lose {draw.choice(HOUSES)}", *[f"put {draw.choice(NAMES)} {turn} {at}" for at in range(2)],
                          f"weigh {draw.choice(HOUSES)} {draw.randrange(1, 6)}", "settle level 99", "step", "step",
                          "fold"]
                for row in orders:
                    try:
                        history.note(row, desk.say(row))
                    except Dark:
                        falls += 1
                        desk.say("light")
                # Behind a fault all is mended ahead of the next one.
                self.mended(desk)
                for name in NAMES:
                    for hour in range(history.floor, history.hour):
                        due = history.row_at(name, hour)
                        if due is not None:
                            self.assertEqual(desk.say(f"read {name} {hour}"), " ".join(map(str, due)))
                            reads += 1
                if turn % 3 == 2:
                    row = f"forget {history.hour - 1}"
                    history.note(row, desk.say(row))
        self.assertTrue(reads > 1000 and falls > 20, (reads, falls))

    def mended(self, desk):
        if desk.ground.is_dark():
            desk.say("light")
        desk.say("fuse 9999")
        for word in desk.say("scrub").split(" "):
            if word != "none":
                ticket, place = word.split(":")[0].split("/")
                desk.say(f"mend {ticket} {place}")
        self.assertEqual(desk.say("scrub"), "none")

    def test_several_orders_are_told_as_one_by_one(self):
        stopped = 0
        for seed in range(40):
            history = History(seed + 900)
            self.begun(history)
            for _ in range(12):
                orders = [history.row() for _ in range(history.draw.randrange(7))]
                orders = [row for row in orders if row != "depth"]
                told = []
                for row in orders:
                    told.append(asked_of(history.parts, row))
                    if not isinstance(told[-1], str):
                        break
                if told and not isinstance(told[-1], str):
                    stopped += 1
                    with self.assertRaises(Stopped) as caught:
                        history.desk.say_all(orders)
                    cause = caught.exception.__cause__
                    self.assertEqual(vars(caught.exception), {"number": len(told) - 1, "row": orders[len(told) - 1]})
                    self.assertEqual((type(cause), vars(cause)), told[-1])
                else:
                    self.assertEqual(history.desk.say_all(orders), told)
                self.alike(history)
        self.assertTrue(stopped > 40, stopped)


if __name__ == "__main__":
    unittest.main()
