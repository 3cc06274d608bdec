"""[70] to [72]: settlings, their papers, and stairs, held against trying all tables; large ones are told soon."""

import random
import time
import unittest

from sherdhall.errors import NoLevel, NoMoves, NoRoom
from sherdhall.homes import is_within, many_moves, paired
from sherdhall.papers import Paper, worth
from sherdhall.scores import first_set, room
from sherdhall.settling import Settling, settle, stairs
from sherdhall.town import Town
from grounds import Grounds
from towns import NAMES, copied, drawn_rows, drawn_table, fewest_by_levels

ROWS = [("ha", "east", 1), ("hb", "east", 2), ("hc", "west", 1), ("hd", "west", 0), ("he", "south", 1)]
# All in two houses: so for a level of 1 two of them must go.
TABLE = {3: ["ha", "hc"], 8: ["ha", "hc"]}


def pieces_of(table):
    return sum(len(homes) for homes in table.values())


def small(seed):
    """A drawn town of up to five houses, a table of up to three tickets that has room in it, and a limit."""
    draw = random.Random(seed)
    while True:
        rows = drawn_rows(draw, draw.randrange(1, 6))
        zone = draw.choice([1, 1, 2, 3, 10 ** 20])
        table = drawn_table(draw, rows, draw.randrange(4), 3)
        if all(len(homes) <= room(Town(rows), zone=zone) for homes in table.values()):
            return rows, table, zone


def large(seed):
    """A drawn town of twelve houses, a table of twelve tickets with as many pieces as have room, and a limit."""
    draw = random.Random(seed)
    rows = [(name, draw.choice("abcdefgh"[:draw.choice([1, 3, 8])]), draw.choice([0, 1, 1, 1, 2, 3, 1000]))
            for name in NAMES]
    zone = draw.choice([1, 2, 3, 12])
    most = min(10, room(Town(rows), zone=zone))
    places = draw.choice([NAMES, NAMES[:most + 1], NAMES + ["xa", "xb", "xc", "xd"], ["x" + name for name in NAMES]])
    return rows, {10 * at: draw.sample(places, min(most, len(places))) for at in range(12)} if most > 0 else {}, zone


class Settlings(Grounds):

    def held(self, rows, table, zone, settling, *, level, many):
        """Hold all that a settling tells, but below, against the level and the moves that are due."""
        town = Town(rows)
        self.assertIsInstance(settling, Settling)
        self.assertEqual((settling.level, settling.many), (level, many))
        settled = settling.settled
        self.assertIs(type(settled), dict)
        self.assertEqual(set(settled), set(table))
        self.assertTrue(is_within(town, settled, zone=zone, level=level))
        self.assertEqual(many_moves(table, settled), many)
        for ticket, homes in table.items():
            self.assertEqual(settled[ticket], paired(town, homes, sorted(settled[ticket])))
        self.assertIsInstance(settling.paper, Paper)
        self.assertEqual(worth(town, table, settling.paper, zone=zone, level=level), many)
        if is_within(town, table, zone=zone, level=level):
            self.assertEqual((many, settled), (0, table))

    def held_below(self, rows, table, zone, settling, bound):
        """Hold below, of a settling by the least level for so many moves."""
        if settling.level == 0:
            self.assertIsNone(settling.below)
        else:
            self.assertIsInstance(settling.below, Paper)
            self.assertTrue(worth(Town(rows), table, settling.below, zone=zone, level=settling.level - 1) > bound)

    def test_by_hand(self):
        told = settle(Town(ROWS), TABLE, zone=1)
        self.held(ROWS, TABLE, 1, told, level=1, many=2)
        self.assertEqual(told.settled[3][1] == "he", told.settled[8][1] != "he")
        told = settle(Town(ROWS), TABLE, zone=1, level=2)
        self.held(ROWS, TABLE, 1, told, level=2, many=0)
        self.assertEqual((told.settled, told.below), (TABLE, None))
        self.held(ROWS, TABLE, 1, settle(Town(ROWS), TABLE, zone=1, moves=1), level=2, many=0)
        self.held(ROWS, TABLE, 1, settle(Town(ROWS), TABLE, zone=1, moves=2), level=1, many=2)

    def test_with_neither_a_level_nor_moves(self):
        moving = 0
        for seed in range(150):
            rows, table, zone = small(seed)
            due = fewest_by_levels(rows, table, zone)
            level = [many is None for many in due].index(False)
            told = settle(Town(rows), table, zone=zone)
            self.held(rows, table, zone, told, level=level, many=due[level])
            self.held_below(rows, table, zone, told, pieces_of(table))
            moving += told.many > 0
        self.assertTrue(moving > 50, moving)

    def test_with_a_level(self):
        refused = 0
        for seed in range(150):
            rows, table, zone = small(seed + 1000)
            due = fewest_by_levels(rows, table, zone)
            least = [many is None for many in due].index(False)
            for level, many in [*enumerate(due), (len(due), due[-1]), (9999, due[-1])]:
                if many is None:
                    fields = {"level": level, "least": least}
                    self.refused(NoLevel, fields, settle, Town(rows), table, zone=zone, level=level)
                    refused += 1
                else:
                    told = settle(Town(rows), table, zone=zone, level=level)
                    self.held(rows, table, zone, told, level=level, many=many)
                    self.assertIsNone(told.below)
        self.assertTrue(refused > 50, refused)

    def test_with_moves(self):
        levels = set()
        for seed in range(150):
            rows, table, zone = small(seed + 2000)
            due = fewest_by_levels(rows, table, zone)
            for moves in [*range(pieces_of(table) + 2), 9999]:
                if due[-1] > moves:
                    fields = {"most": moves, "least": due[-1]}
                    self.refused(NoMoves, fields, settle, Town(rows), table, zone=zone, moves=moves)
                    continue
                level = [many is not None and many <= moves for many in due].index(True)
                told = settle(Town(rows), table, zone=zone, moves=moves)
                self.held(rows, table, zone, told, level=level, many=due[level])
                self.held_below(rows, table, zone, told, moves)
                levels.add(level - [many is None for many in due].index(False))
        self.assertTrue({0, 1} <= levels)

    def test_with_both(self):
        told_of = {"told": 0, NoLevel: 0, NoMoves: 0}
        for seed in range(150):
            rows, table, zone = small(seed + 3000)
            due = fewest_by_levels(rows, table, zone)
            least = [many is None for many in due].index(False)
            for level, many in [*enumerate(due), (9999, due[-1])]:
                for moves in [*range(pieces_of(table) + 2), 9999]:
                    handed = {"zone": zone, "level": level, "moves": moves}
                    if many is None:
                        told_of[NoLevel] += 1
                        self.refused(NoLevel, {"level": level, "least": least}, settle, Town(rows), table, **handed)
                    elif many > moves:
                        told_of[NoMoves] += 1
                        self.refused(NoMoves, {"most": moves, "least": many}, settle, Town(rows), table, **handed)
                    else:
                        told_of["told"] += 1
                        told = settle(Town(rows), table, **handed)
                        self.held(rows, table, zone, told, level=level, many=many)
                        self.assertIsNone(told.below)
        self.assertTrue(min(told_of.values()) > 100, told_of)

    def test_no_room_ahead_of_all(self):
        town = Town(ROWS)
        table = {30: ["ha", "hb", "hc", "he"], 9: ["xa", "xb", "xc", "xd", "xe"], 4: ["ha"]}
        for handed in ({}, {"level": 0}, {"moves": 0}, {"level": 0, "moves": 0}):
            self.refused(NoRoom, {"name": 9, "need": 5, "have": 3}, settle, town, table, zone=1, **handed)
            self.refused(NoRoom, {"name": 9, "need": 5, "have": 4}, settle, town, table, zone=2, **handed)
            self.refused(NoRoom, {"name": 4, "need": 1, "have": 0}, settle, Town(), table, zone=2, **handed)
            self.refused(NoRoom, {"name": 30, "need": 4, "have": 3}, settle, town, {30: table[30]}, zone=1, **handed)
        self.refused(NoRoom, {"name": 9, "need": 5, "have": 4}, stairs, town, table, zone=2)

    def test_no_level_ahead_of_no_moves(self):
        self.refused(NoLevel, {"level": 0, "least": 1}, settle, Town(ROWS), TABLE, zone=1, level=0, moves=0)
        self.refused(NoMoves, {"most": 1, "least": 2}, settle, Town(ROWS), TABLE, zone=1, level=1, moves=1)
        self.refused(NoMoves, {"most": 0, "least": 1}, settle, Town(ROWS), {1: ["hd"]}, zone=1, moves=0)

    def test_the_empty_table(self):
        for town in (Town(), Town(ROWS)):
            for handed, level in (({}, 0), ({"moves": 0}, 0), ({"level": 5}, 5), ({"level": 0, "moves": 0}, 0)):
                told = settle(town, {}, zone=1, **handed)
                self.assertEqual((told.level, told.settled, told.many, told.below), (level, {}, 0, None))
                self.assertEqual(worth(town, {}, told.paper, zone=1, level=level), 0)
            self.assertEqual(stairs(town, {}, zone=1), [(0, 0)])


class Stairs(Grounds):

    def test_by_hand(self):
        self.assertEqual(stairs(Town(ROWS), TABLE, zone=1), [(1, 2), (2, 0)])
        self.assertEqual(stairs(Town(ROWS), {at: ["ha"] for at in range(9)}, zone=1), [
            (2, 7), (3, 6), (4, 5), (5, 4), (6, 3), (7, 2), (8, 1), (9, 0)])

    def test_held_against_all_tables(self):
        lengths = set()
        for seed in range(250):
            rows, table, zone = small(seed + 4000)
            due = fewest_by_levels(rows, table, zone)
            first = [many is None for many in due].index(False)
            last = due.index(due[-1])
            told = stairs(Town(rows), table, zone=zone)
            self.assertIs(type(told), list)
            self.assertEqual(told, [(level, due[level]) for level in range(first, last + 1)])
            lengths.add(len(told))
        self.assertTrue({1, 2} <= lengths)


class Large(unittest.TestCase):
    """Of twelve tickets and twelve houses: what shows a settling is its papers, as no one could try all tables."""

    def soon(self, asked, *things, **more):
        began = time.perf_counter()
        told = asked(*things, **more)
        self.assertTrue(time.perf_counter() - began < 2)
        return told

    def test_each_call_is_soon_and_shown_by_papers(self):
        stepping = 0
        for seed in range(60):
            rows, table, zone = large(seed)
            town = Town(rows)
            told = self.soon(stairs, town, table, zone=zone)
            self.assertEqual([level for level, _ in told], list(range(told[0][0], told[0][0] + len(told))))
            moves = [many for _, many in told]
            self.assertEqual(moves, sorted(moves, reverse=True))
            self.assertTrue(moves.count(moves[-1]) == 1)
            stepping += len(told) > 2
            # By a level of twelve no house has too many, so this is the fewest of all.
            self.shown(town, table, zone, self.soon(settle, town, table, zone=zone, level=12), 12, moves[-1])
            for level, many in told:
                one = self.soon(settle, town, table, zone=zone, level=level)
                self.shown(town, table, zone, one, level, many)
            one = self.soon(settle, town, table, zone=zone)
            self.shown(town, table, zone, one, *told[0])
            if one.level > 0:
                self.assertTrue(worth(town, table, one.below, zone=zone, level=one.level - 1) > pieces_of(table))
            one = self.soon(settle, town, table, zone=zone, moves=moves[-1])
            self.shown(town, table, zone, one, *told[-1])
            if one.level > 0:
                self.assertTrue(worth(town, table, one.below, zone=zone, level=one.level - 1) > moves[-1])
        self.assertTrue(stepping > 5, stepping)

    def shown(self, town, table, zone, settling, level, many):
        self.assertEqual((settling.level, settling.many), (level, many))
        self.assertTrue(is_within(town, settling.settled, zone=zone, level=level))
        self.assertEqual(many_moves(table, settling.settled), many)
        self.assertEqual(worth(town, table, settling.paper, zone=zone, level=level), many)

    def test_the_widest(self):
        rows = [(name, "z" + "abcdefgh"[at % 8], 1) for at, name in enumerate(NAMES)]
        names = ["t" + sign for sign in "abcdefghijkl"]
        table = {at: first_set(Town(rows), name, pieces=10, zone=2) for at, name in enumerate(names)}
        self.assertEqual(self.soon(stairs, Town(rows), table, zone=2)[0][0], 10)
        # Other weights, and all other houses: each piece must go.
        other = [("x" + name, where, at % 3 + 1) for at, (name, where, _) in enumerate(rows)]
        self.assertEqual(self.soon(stairs, Town(other), table, zone=2)[0][1], 120)
        # A house as heavy as all, and one that is to be emptied.
        third = [(name, where, (0, 1000, 1)[min(at, 2)]) for at, (name, where, _) in enumerate(rows)]
        self.assertTrue(self.soon(stairs, Town(third), table, zone=2)[-1][1] > 0)


class OwnAndAlike(unittest.TestCase):

    def told(self, settling):
        return (settling.level, settling.settled, settling.many, settling.paper, settling.below)

    def test_what_is_handed_in_is_as_it_was(self):
        for seed in range(30):
            rows, table, zone = small(seed)
            town, handed = Town(rows), copied(table)
            settle(town, table, zone=zone)
            stairs(town, table, zone=zone)
            self.assertEqual((town, table), (Town(rows), handed))

    def test_what_is_told_is_the_askers_own(self):
        table = copied(TABLE)
        town = Town(ROWS)
        one, other = settle(town, table, zone=1), settle(town, table, zone=1)
        due = {ticket: list(homes) for ticket, homes in other.settled.items()}
        for homes in one.settled.values():
            homes.clear()
        one.settled.clear()
        one.paper.for_tickets.clear()
        one.below.for_houses.clear()
        self.assertEqual(other.settled, due)
        kept = settle(town, table, zone=1, level=2)
        kept.settled[3].clear()
        self.assertEqual(table, TABLE)
        table[8].clear()
        self.assertEqual(kept.settled[8], TABLE[8])
        stairs(town, TABLE, zone=1).clear()
        self.assertEqual(stairs(town, TABLE, zone=1), [(1, 2), (2, 0)])

    def test_the_same_asked_again_is_told_alike(self):
        for seed in range(40):
            rows, table, zone = small(seed)
            due = self.told(settle(Town(rows), table, zone=zone))
            turned = {ticket: list(table[ticket]) for ticket in reversed(list(table))}
            self.assertEqual(self.told(settle(Town(rows), table, zone=zone)), due)
            self.assertEqual(self.told(settle(Town(sorted(rows)), turned, zone=zone)), due)


if __name__ == "__main__":
    unittest.main()
