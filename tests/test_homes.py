"""[64] to [67]: tables, their loads, when they are within a level, their moves, and paired lists."""

import itertools
import random
import unittest

from sherdhall.homes import is_within, loads, many_moves, paired
from sherdhall.town import Town
from towns import copied, drawn_rows, drawn_table, is_right_set, level_of, moves_to, right_sets

ROWS = [("ha", "east", 1), ("hb", "east", 2), ("hc", "west", 3), ("hd", "west", 0), ("he", "south", 1)]
TABLE = {7: ["ha", "hc"], 0: ["hc"], 3: ["hc", "hb", "he"]}


def by_going_through(rows, homes, houses):
    """The houses paired with homes, by the words of [67], place by place."""
    zones = {house: where for house, where, _ in rows}
    out = {at: home for at, home in enumerate(homes) if home in houses}
    coming = sorted(set(houses) - set(homes))
    for where in sorted(set(zones.values())):
        for at, home in enumerate(homes):
            here = [house for house in coming if zones[house] == where]
            if home not in houses and zones.get(home) == where and here:
                out[at] = here[0]
                coming.remove(here[0])
    for at in range(len(homes)):
        if at not in out:
            out[at] = coming.pop(0)
    return [out[at] for at in range(len(homes))]


class Loads(unittest.TestCase):

    def test_loads(self):
        self.assertEqual(loads(TABLE), {"ha": 1, "hb": 1, "hc": 3, "he": 1})
        self.assertEqual(loads({}), {})
        self.assertEqual(loads({5: ["xa"]}), {"xa": 1})
        for seed in range(40):
            table = drawn_table(random.Random(seed), ROWS, 4, 5)
            homes = [home for ticket in table for home in table[ticket]]
            self.assertEqual(loads(table), {home: homes.count(home) for home in homes})

    def test_told_dicts_are_the_askers_own(self):
        table = copied(TABLE)
        loads(table).clear()
        self.assertEqual(loads(table), {"ha": 1, "hb": 1, "hc": 3, "he": 1})
        self.assertEqual(table, TABLE)


class Within(unittest.TestCase):

    def test_at_the_level_and_one_below_it(self):
        town = Town(ROWS)
        self.assertIs(is_within(town, TABLE, zone=1, level=1), True)
        self.assertIs(is_within(town, TABLE, zone=1, level=0), False)
        # Two pieces in a house of weight 1, four in one of weight 2.
        for table, level in (({1: ["ha"], 2: ["ha"]}, 2), ({at: ["hb"] for at in range(4)}, 2),
                             ({at: ["hb"] for at in range(3)}, 2), ({at: ["hb"] for at in range(2)}, 1)):
            self.assertIs(is_within(town, table, zone=1, level=level), True)
            self.assertIs(is_within(town, table, zone=1, level=level - 1), False)
            self.assertIs(is_within(town, table, zone=1, level=9999), True)

    def test_rows_that_are_no_right_sets(self):
        town = Town(ROWS)
        for homes in (["hd"], ["xa"], ["ha", "hb"], ["hc", "hd"], ["ha", "xa"]):
            for level in (0, 1, 9999):
                self.assertIs(is_within(town, {1: ["he"], 2: homes}, zone=1, level=level), False)
        self.assertIs(is_within(town, {1: ["ha", "hb"]}, zone=2, level=1), True)

    def test_the_empty_table(self):
        for town in (Town(), Town(ROWS)):
            self.assertIs(is_within(town, {}, zone=1, level=0), True)
        self.assertIs(is_within(Town(), {1: ["ha"]}, zone=1, level=5), False)

    def test_drawn_tables(self):
        told = {True: 0, False: 0}
        for seed in range(400):
            draw = random.Random(seed)
            rows = drawn_rows(draw, 6)
            table = drawn_table(draw, rows, draw.randrange(4), 3, foreign=["xa"] if seed % 4 == 0 else [])
            zone = draw.choice([1, 2, 3])
            right = all(is_right_set(rows, homes, zone) for homes in table.values())
            for level in range(5):
                due = right and level_of(rows, table) <= level
                self.assertIs(is_within(Town(rows), table, zone=zone, level=level), due)
                told[due] += 1
        self.assertTrue(min(told.values()) > 100, told)


class Moves(unittest.TestCase):

    def test_houses_that_come_wherever_they_stand(self):
        self.assertEqual(many_moves(TABLE, TABLE), 0)
        self.assertEqual(many_moves(TABLE, {7: ["hc", "ha"], 0: ["hc"], 3: ["he", "hc", "hb"]}), 0)
        self.assertEqual(many_moves(TABLE, {7: ["hc", "hb"], 0: ["xa"], 3: ["xa", "hc", "xb"]}), 4)
        self.assertEqual(many_moves({}, {}), 0)

    def test_drawn_tables(self):
        for seed in range(60):
            draw = random.Random(seed)
            table = drawn_table(draw, ROWS, 4, 5)
            houses = [row[0] for row in ROWS] + ["xa", "xb"]
            other = {ticket: draw.sample(houses, len(table[ticket])) for ticket in table}
            self.assertEqual(many_moves(table, other), moves_to(table, other))


class Paired(unittest.TestCase):

    def test_what_stays_keeps_its_place(self):
        town = Town(ROWS)
        self.assertEqual(paired(town, ["hc", "ha", "he"], ["ha", "he", "hc"]), ["hc", "ha", "he"])
        self.assertEqual(paired(town, ["hc", "ha", "he"], ["hb", "he", "hc"]), ["hc", "hb", "he"])
        self.assertEqual(paired(town, [], []), [])

    def test_zone_by_zone_then_the_rest(self):
        rows = [("a", "z", 1), ("b", "z", 1), ("c", "z", 1), ("d", "y", 1), ("e", "y", 1), ("f", "y", 0)]
        town = Town(rows)
        # The place of e, the first of its zone, is for d, though a comes ahead of it by its name.
        self.assertEqual(paired(town, ["c", "e"], ["d", "a"]), ["a", "d"])
        # Two go from z and one comes there: the first place of z gets it, the other one what is left.
        self.assertEqual(paired(town, ["b", "c", "e"], ["d", "e", "a"]), ["a", "d", "e"])
        # Of a house that is none of the town's, none is of the zone; of one of weight 0 there are.
        self.assertEqual(paired(town, ["xa", "f", "b"], ["a", "d", "e"]), ["e", "d", "a"])
        self.assertEqual(paired(town, ["xb", "xa"], ["e", "b"]), ["b", "e"])

    def test_drawn_lists(self):
        for seed in range(300):
            draw = random.Random(seed)
            rows = drawn_rows(draw, 8)
            names = [row[0] for row in rows]
            homes = draw.sample(names + ["xa", "xb"], draw.randrange(9))
            houses = draw.sample(names, len(homes))
            handed = (list(homes), list(houses))
            told = paired(Town(rows), homes, houses)
            self.assertIs(type(told), list)
            self.assertEqual(told, by_going_through(rows, homes, houses))
            self.assertEqual((homes, houses), handed)
            self.assertEqual(paired(Town(rows), homes, sorted(houses)), told)

    def test_all_lists_of_a_small_town(self):
        rows = [("a", "z", 1), ("b", "z", 1), ("c", "y", 1), ("d", "y", 0), ("e", "x", 1)]
        for many in range(4):
            for homes in itertools.permutations(["a", "b", "c", "d", "xa"], many):
                for houses in right_sets([(name, where, 1) for name, where, _ in rows], many, 5):
                    told = paired(Town(rows), list(homes), list(houses))
                    self.assertEqual(told, by_going_through(rows, list(homes), list(houses)))
                    self.assertEqual(sorted(told), sorted(houses))


if __name__ == "__main__":
    unittest.main()
