"""[60]: towns, their houses with zones and weights."""

import itertools
import unittest

from sherdhall.errors import NoHouse, NoName, NoWeight, Taken
from sherdhall.town import Town
from grounds import NO_NAMES, Grounds
from samples import NO_WHOLES

ROWS = [("hb", "west", 5), ("ha", "east", 0), ("hd", "west", 1000), ("hc", "north", 1)]
SORTED = [("ha", "east", 0), ("hb", "west", 5), ("hc", "north", 1), ("hd", "west", 1000)]
NO_WEIGHTS = NO_WHOLES + [-1, 1001, 10 ** 59, -10 ** 59]


def told(town):
    """All that is told of a town."""
    names = town.house_names()
    return (town.listed(), names, town.zone_names(), [town.zone_of(name) for name in names],
            [town.weight_of(name) for name in names], len(town), repr(town))


class Towns(Grounds):

    def test_what_is_told(self):
        self.assertEqual(told(Town(ROWS)), (
            SORTED, ["ha", "hb", "hc", "hd"], ["east", "north", "west"], ["east", "west", "north", "west"],
            [0, 5, 1, 1000], 4, "Town([('ha', 'east', 0), ('hb', 'west', 5), ('hc', 'north', 1), ('hd', 'west', 1000)])"))

    def test_without_houses(self):
        for town in (Town(), Town([]), Town(()), Town(rows=[])):
            self.assertEqual(told(town), ([], [], [], [], [], 0, "Town([])"))

    def test_in_any_order_and_of_a_tuple(self):
        for rows in itertools.permutations(ROWS):
            self.assertEqual(told(Town(rows)), told(Town(ROWS)))
            self.assertEqual(told(Town(list(rows))), told(Town(ROWS)))

    def test_a_house_and_its_zone_may_have_one_name(self):
        self.assertEqual(told(Town([("a", "a", 1), ("b", "a", 1)]))[0], [("a", "a", 1), ("b", "a", 1)])

    def test_kinds(self):
        town = Town(ROWS)
        for asked in (town.listed, town.house_names, town.zone_names):
            self.assertIs(type(asked()), list)
        self.assertTrue(all(type(row) is tuple for row in town.listed()))

    def test_what_was_handed_in_may_be_changed_behind(self):
        rows = list(ROWS)
        town = Town(rows)
        self.assertEqual(rows, ROWS)
        rows[0] = ("hx", "east", 9)
        rows.clear()
        self.assertEqual(told(town), told(Town(ROWS)))

    def test_told_lists_are_the_askers_own(self):
        town = Town(ROWS)
        for asked in (town.listed, town.house_names, town.zone_names):
            asked().clear()
            asked().append("hx")
        self.assertEqual(told(town), told(Town(ROWS)))


class Refused(Grounds):

    def test_no_name_of_the_house_then_of_the_zone_then_no_weight_then_taken(self):
        for name in NO_NAMES:
            self.refused(NoName, {"name": name}, Town, ROWS + [(name, "A B", None)])
            self.refused(NoName, {"name": name}, Town, ROWS + [("ha", name, None)])
        for weight in NO_WEIGHTS:
            self.refused(NoWeight, {"weight": weight}, Town, ROWS + [("ha", "east", weight)])
        for name in ("ha", "hb", "hc", "hd"):
            self.refused(Taken, {"name": name}, Town, ROWS + [(name, "south", 5)])

    def test_row_by_row(self):
        self.refused(Taken, {"name": "ha"}, Town, [("ha", "a", 1), ("ha", "a", 1), ("", "a", 1)])
        self.refused(NoWeight, {"weight": 1001}, Town, [("ha", "a", 1001), ("", "a", 1)])
        self.refused(NoName, {"name": ""}, Town, [("ha", "a", 1), ("", "a", 1), ("ha", "a", 1)])
        self.refused(NoName, {"name": "Z"}, Town, [("ha", "a", 1), ("hb", "Z", 1), ("hc", "a", None)])

    def test_edges_of_weights(self):
        self.assertEqual([Town([("a", "a", weight)]).weight_of("a") for weight in (0, 1, 999, 1000)], [0, 1, 999, 1000])

    def test_questions(self):
        town = Town(ROWS)
        for asked in (town.zone_of, town.weight_of, town.without):
            for name in NO_NAMES:
                self.refused(NoName, {"name": name}, asked, name)
            for name in ("hx", "west"):
                self.refused(NoHouse, {"name": name}, asked, name)


class Others(Grounds):

    def test_with_house(self):
        town = Town(ROWS)
        other = town.with_house("haa", "south", 7)
        self.assertIsInstance(other, Town)
        self.assertEqual(told(other), told(Town(ROWS + [("haa", "south", 7)])))
        self.assertEqual(told(town), told(Town(ROWS)))
        for name in NO_NAMES:
            self.refused(NoName, {"name": name}, town.with_house, name, "A B", None)
            self.refused(NoName, {"name": name}, town.with_house, "ha", name, None)
        for weight in NO_WEIGHTS:
            self.refused(NoWeight, {"weight": weight}, town.with_house, "ha", "east", weight)
        self.refused(Taken, {"name": "ha"}, town.with_house, "ha", "south", 5)

    def test_weighing(self):
        town = Town(ROWS)
        for name, zone, _ in ROWS:
            for weight in (0, 5, 77, 1000):
                other = town.weighing(name, weight)
                self.assertIsInstance(other, Town)
                rows = [row for row in ROWS if row[0] != name] + [(name, zone, weight)]
                self.assertEqual(told(other), told(Town(rows)))
        self.assertEqual(told(town), told(Town(ROWS)))
        for name in NO_NAMES:
            self.refused(NoName, {"name": name}, town.weighing, name, None)
        self.refused(NoHouse, {"name": "hx"}, town.weighing, "hx", None)
        for weight in NO_WEIGHTS:
            self.refused(NoWeight, {"weight": weight}, town.weighing, "ha", weight)

    def test_without(self):
        town = Town(ROWS)
        for name, _, _ in ROWS:
            other = town.without(name)
            self.assertIsInstance(other, Town)
            self.assertEqual(told(other), told(Town([row for row in ROWS if row[0] != name])))
        self.assertEqual(told(town), told(Town(ROWS)))
        self.assertEqual(town.without("ha").zone_names(), ["north", "west"])
        self.assertEqual(len(Town([ROWS[0]]).without("hb")), 0)

    def test_another_town_goes_its_own_way(self):
        town = Town(ROWS)
        other = town.with_house("hx", "east", 1).weighing("hx", 2).without("ha").weighing("hb", 9)
        self.assertEqual(told(town), told(Town(ROWS)))
        self.assertEqual(other.listed(), [("hb", "west", 9), ("hc", "north", 1), ("hd", "west", 1000), ("hx", "east", 2)])


class Equal(Grounds):

    def test_the_same_rows_in_whatever_order(self):
        for rows in itertools.permutations(ROWS):
            self.assertIs(Town(rows) == Town(ROWS), True)
            self.assertIs(Town(rows) != Town(ROWS), False)
        self.assertTrue(Town() == Town([]))
        self.assertTrue(Town(ROWS).without("ha").with_house("ha", "east", 0) == Town(ROWS))
        self.assertTrue(Town(ROWS).weighing("ha", 1).weighing("ha", 0) == Town(ROWS))

    def test_each_thing_that_counts(self):
        for other in (ROWS[:3], ROWS + [("hx", "east", 1)], [("hz", "west", 5)] + ROWS[1:],
                      [("hb", "east", 5)] + ROWS[1:], [("hb", "west", 6)] + ROWS[1:], []):
            self.assertIs(Town(ROWS) == Town(other), False)
            self.assertIs(Town(ROWS) != Town(other), True)

    def test_equal_to_nothing_else(self):
        for other in NO_WHOLES + [SORTED, tuple(SORTED), repr(Town(ROWS)), 4]:
            self.assertIs(Town(ROWS) == other, False)
            self.assertIs(other == Town(ROWS), False)


if __name__ == "__main__":
    unittest.main()
