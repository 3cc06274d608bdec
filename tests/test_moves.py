"""[78] to [81]: moves from a table to another one, what comes of some of them, rounds of them, and their neck."""

import itertools
import random
import unittest

from sherdhall.errors import NoPlace, NoTicket, Taken
from sherdhall.homes import paired
from sherdhall.moves import LANES, is_rounds, moved, moves_of, neck, rounds
from sherdhall.scores import room
from sherdhall.settling import settle
from sherdhall.town import Town
from grounds import Grounds
from towns import copied, drawn_rows, drawn_table, right_sets

ROWS = [("ha", "east", 1), ("hb", "east", 2), ("hc", "west", 1), ("hd", "west", 0), ("he", "south", 1)]
TABLE = {12: ["ha", "hd", "xa"], 5: ["hb"], 7: ["he", "hc"]}
OTHER = {12: ["ha", "hc", "hb"], 5: ["ha"], 7: ["he", "hc"]}
MOVES = [(5, 0, "hb", "ha"), (12, 1, "hd", "hc"), (12, 2, None, "hb")]


def drawn_moves(draw, many, houses):
    """So many unlike moves between some houses, some of them from no house."""
    sources = houses + [None]
    return [(draw.randrange(5), at, draw.choice(sources), draw.choice(houses)) for at in range(many)]


def ends_of(moves):
    """By house and side, how many of the moves have it."""
    ends = [(source, "gives") for _, _, source, _ in moves if source] + [(house, "gets") for *_, house in moves]
    return {end: ends.count(end) for end in ends}


def all_partings(things, many):
    """All ways to part things into at most so many parts, each one at least."""
    if not things:
        yield []
        return
    for parts in all_partings(things[1:], many):
        for at in range(len(parts)):
            yield parts[:at] + [[things[0]] + parts[at]] + parts[at + 1:]
        if len(parts) < many:
            yield [[things[0]]] + parts


def fits(parts, lanes):
    return all(number <= lanes for part in parts for number in ends_of(part).values())


def fewest_by_trying(moves, lanes):
    """The fewest rounds, by trying all partings."""
    return min(len(parts) for parts in all_partings(moves, len(moves)) if fits(parts, lanes))


class Moves(Grounds):

    def test_by_ticket_and_place(self):
        self.assertEqual(moves_of(Town(ROWS), TABLE, OTHER), MOVES)
        self.assertEqual(moves_of(Town(ROWS), TABLE, TABLE), [])
        self.assertEqual(moves_of(Town(ROWS), {}, {}), [])

    def test_from_is_none_where_the_house_is_none_of_the_towns(self):
        for gone in ("hb", "hd"):
            due = [(ticket, place, None if source == gone else source, to) for ticket, place, source, to in MOVES]
            self.assertEqual(moves_of(Town(ROWS).without(gone), TABLE, OTHER), due)
        self.assertEqual([move[2] for move in moves_of(Town(), TABLE, OTHER)], [None] * 3)

    def test_drawn_tables(self):
        for seed in range(60):
            draw = random.Random(seed)
            rows = drawn_rows(draw, 6)
            table = drawn_table(draw, rows, 4, 4)
            other = {ticket: draw.sample([row[0] for row in rows], len(table[ticket])) for ticket in table}
            handed = copied(table), copied(other)
            town = Town(rows)
            due = [(ticket, place, old if old in town.house_names() else None, new) for ticket in sorted(table)
                   for place, (old, new) in enumerate(zip(table[ticket], other[ticket])) if old != new]
            told = moves_of(town, table, other)
            self.assertEqual(told, due)
            self.assertTrue(type(told) is list and all(type(move) is tuple for move in told))
            self.assertEqual((table, other), handed)
            told.clear()
            self.assertEqual(moves_of(town, table, other), due)


class Moved(Grounds):

    def test_one_after_the_other(self):
        table, moves = copied(TABLE), list(MOVES)
        told = moved(table, moves)
        self.assertEqual(told, OTHER)
        self.assertEqual((table, moves), (TABLE, MOVES))
        for homes in told.values():
            homes.clear()
        self.assertEqual(table, TABLE)
        self.assertEqual(moved(table, []), TABLE)
        self.assertIsNot(moved(table, [])[5], table[5])
        # A house that a first one leaves may be taken by a second one; from does not count.
        self.assertEqual(moved({1: ["ha", "hb"]}, [(1, 0, "ha", "hc"), (1, 1, "zz", "ha"), (1, 1, None, "ha")]),
                         {1: ["hc", "ha"]})

    def test_refused(self):
        for ticket in (6, 0, 13, 10 ** 59):
            self.refused(NoTicket, {"ticket": ticket}, moved, TABLE, [(ticket, 9, "ha", "ha")])
        for place in (-1, 3, 10 ** 59):
            self.refused(NoPlace, {"place": place}, moved, TABLE, [(12, place, "ha", "ha")])
        self.refused(NoPlace, {"place": 1}, moved, TABLE, [(5, 1, "ha", "ha")])
        for house, place in (("ha", 1), ("xa", 0), ("hd", 2)):
            self.refused(Taken, {"name": house}, moved, TABLE, [(12, place, None, house)])
        # By then: the first one has put it there.
        self.refused(Taken, {"name": "hc"}, moved, TABLE, [MOVES[1], (12, 0, "ha", "hc"), (99, 0, None, "ha")])
        self.refused(NoTicket, {"ticket": 99}, moved, TABLE, [MOVES[1], (99, 0, None, "ha"), (12, 0, "ha", "hc")])

    def test_what_was_handed_in_stays_where_it_is_refused(self):
        table, moves = copied(TABLE), MOVES + [(12, 0, "ha", "hc")]
        self.refused(Taken, {"name": "hc"}, moved, table, moves)
        self.assertEqual((table, moves), (TABLE, MOVES + [(12, 0, "ha", "hc")]))


class Anyhow(unittest.TestCase):
    """[79]: whichever of the moves are done, in whatever order."""

    def held(self, town, table, moves, behind):
        zones = {house: where for house, where, _ in town.listed()}
        for now, first, last in ((behind[ticket], table[ticket], moved(table, moves)[ticket]) for ticket in table):
            self.assertEqual(len(set(now)), len(now))
            for where in town.zone_names():
                many = [[zones.get(home) for home in homes].count(where) for homes in (now, first, last)]
                self.assertTrue(many[0] <= max(many[1:]))

    def test_any_of_the_moves_in_any_order(self):
        tried = 0
        for seed in range(300):
            draw = random.Random(seed)
            rows = drawn_rows(draw, 7, weights=(0, 1, 1))
            town = Town(rows)
            table = drawn_table(draw, rows, 1, min(4, len(right_sets(rows, 1, 1))))
            chosen = {ticket: draw.choice(right_sets(rows, len(table[ticket]), 9)) for ticket in table}
            other = {ticket: paired(town, table[ticket], list(chosen[ticket])) for ticket in table}
            moves = moves_of(town, table, other)
            for many in range(len(moves) + 1):
                for some in itertools.permutations(moves, many):
                    self.held(town, table, moves, moved(table, list(some)))
                    tried += 1
            self.assertEqual(moved(table, moves), other)
        self.assertTrue(tried > 1000, tried)

    def test_of_settlings(self):
        for seed in range(40):
            draw = random.Random(seed)
            rows = drawn_rows(draw, 9)
            zone = draw.choice([1, 2, 3])
            most = room(Town(rows), zone=zone)
            table = drawn_table(draw, rows, 5, most) if most else {}
            settled = settle(Town(rows), table, zone=zone).settled
            moves = moves_of(Town(rows), table, settled)
            for _ in range(20):
                some = draw.sample(moves, draw.randrange(len(moves) + 1))
                self.held(Town(rows), table, moves, moved(table, some))


class Rounds(unittest.TestCase):

    def held(self, moves, lanes, told):
        """Hold rounds against the words of [80], and how many they are against the neck."""
        self.assertIs(type(told), list)
        self.assertEqual(sorted(map(moves.index, itertools.chain(*told))), list(range(len(moves))))
        for part in told:
            self.assertTrue(type(part) is list and len(part) > 0)
            self.assertEqual([moves.index(move) for move in part], sorted(moves.index(move) for move in part))
        self.assertTrue(fits(told, lanes))
        most = max(ends_of(moves).values(), default=0)
        self.assertEqual(len(told), -(-most // lanes))
        self.assertIs(is_rounds(moves, told, lanes=lanes), True)

    def test_drawn_moves(self):
        for seed in range(250):
            draw = random.Random(seed)
            moves = drawn_moves(draw, draw.randrange(40), ["ha", "hb", "hc", "hd", "he"][:draw.randrange(1, 6)])
            draw.shuffle(moves)
            handed = list(moves)
            for lanes in (1, 2, 3, 4, 7, 10 ** 59):
                self.held(moves, lanes, rounds(moves, lanes=lanes))
            self.assertEqual(rounds(moves), rounds(moves, lanes=2))
            self.assertEqual(moves, handed)

    def test_many_moves(self):
        for seed in range(4):
            draw = random.Random(seed)
            moves = drawn_moves(draw, 300, ["h" + sign for sign in "abcdefghijkl"])
            for lanes in (1, 2, 5):
                self.held(moves, lanes, rounds(moves, lanes=lanes))

    def test_as_few_as_can_be_by_trying_all(self):
        for seed in range(60):
            draw = random.Random(seed)
            moves = drawn_moves(draw, draw.randrange(1, 7), ["ha", "hb", "hc"][:draw.randrange(1, 4)])
            for lanes in (1, 2, 3):
                self.assertEqual(len(rounds(moves, lanes=lanes)), fewest_by_trying(moves, lanes))

    def test_no_moves_have_no_rounds(self):
        self.assertEqual(rounds([]), [])
        self.assertIs(is_rounds([], []), True)
        self.assertIs(is_rounds([], [[]]), False)
        self.assertEqual(LANES, 2)

    def test_no_house_binds_nothing(self):
        moves = [(at, 0, None, "h" + sign) for at, sign in enumerate("abcdef")]
        self.assertEqual(rounds(moves, lanes=1), [moves])
        self.assertIs(is_rounds(moves, [moves], lanes=1), True)

    def test_told_lists_are_the_askers_own(self):
        moves = drawn_moves(random.Random(1), 12, ["ha", "hb"])
        due = rounds(moves)
        told = rounds(moves)
        for part in told:
            part.clear()
        told.clear()
        self.assertEqual(rounds(moves), due)

    def test_right_rounds_in_whatever_order_and_however_many(self):
        moves = drawn_moves(random.Random(2), 9, ["ha", "hb", "hc"])
        told = [part[::-1] for part in rounds(moves)][::-1]
        self.assertIs(is_rounds(moves, told), True)
        self.assertIs(is_rounds(moves[::-1], told), True)
        self.assertIs(is_rounds(moves, [[move] for move in moves], lanes=1), True)

    def test_one_thing_otherwise(self):
        for seed in range(60):
            draw = random.Random(seed)
            moves = drawn_moves(draw, draw.randrange(3, 12), ["ha", "hb", "hc"])
            told = rounds(moves)
            most = max(ends_of(moves).values())
            foreign = (9, 9, "ha", "hb")
            self.assertIs(is_rounds(moves, told), True)
            for wrong in (told + [[]], [[]] + told, told + [[moves[0]]], told + [[foreign]], told[1:], told[:-1],
                          [told[0][1:]] + told[1:], [[foreign] + told[0][1:]] + told[1:],
                          [part + [moves[0]] for part in told], []):
                self.assertIs(is_rounds(moves, wrong), False)
            for lanes in (1, 2, 3):
                self.assertIs(is_rounds(moves, [moves], lanes=lanes), most <= lanes)
                one, *rest = rounds(moves, lanes=lanes)
                for at in range(len(rest)):
                    both = [one + rest[at]] + rest[:at] + rest[at + 1:]
                    self.assertIs(is_rounds(moves, both, lanes=lanes), fits(both, lanes))


class Necks(unittest.TestCase):

    def test_by_hand(self):
        self.assertIsNone(neck([]))
        self.assertEqual(neck([(1, 0, None, "hb")]), ("hb", "gets", 1))
        # Of one house gets ahead of gives, of several houses the least name, whichever side.
        self.assertEqual(neck([(1, 0, "hb", "hb")]), ("hb", "gets", 1))
        self.assertEqual(neck([(1, 0, "ha", "hb")]), ("ha", "gives", 1))
        self.assertEqual(neck([(1, 0, "hb", "ha")]), ("ha", "gets", 1))
        self.assertEqual(neck([(1, 0, "hb", "ha"), (2, 0, "hb", "hc")]), ("hb", "gives", 2))
        self.assertEqual(neck([(1, 0, "z", "b"), (2, 0, "z", "aa"), (3, 0, "aa", "b")]), ("b", "gets", 2))
        # No house is none, however often it is from.
        self.assertEqual(neck([(1, 0, None, "hc"), (2, 0, None, "hb"), (3, 0, None, "hd")]), ("hb", "gets", 1))

    def test_drawn_moves(self):
        for seed in range(200):
            draw = random.Random(seed)
            moves = drawn_moves(draw, draw.randrange(1, 12), ["ha", "hb", "hc", "hd"])
            ends = ends_of(moves)
            most = max(ends.values())
            house = min(house for house, side in ends if ends[(house, side)] == most)
            side = "gets" if ends.get((house, "gets")) == most else "gives"
            handed = list(moves)
            self.assertEqual(neck(moves), (house, side, most))
            self.assertEqual(moves, handed)


if __name__ == "__main__":
    unittest.main()
