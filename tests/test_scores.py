"""[61] to [63]: numbers of names, scores, first sets, right sets and the room of a town."""

import itertools
import random
import unittest

from sherdhall.errors import NoHouse, NoName, NoRoom
from sherdhall.scores import first_set, is_right, number_of, room, score
from sherdhall.town import Town
from grounds import NO_NAMES, Grounds
from towns import NAMES, drawn_rows, in_use, number, points, right_sets, space

ROWS = [("ha", "east", 1), ("hb", "east", 2), ("hc", "west", 3), ("hd", "west", 0), ("he", "south", 1000),
        ("hf", "east", 1)]
SOME = ["a", "z", "tides", "zzzzzzzz", "abcdefgh", "ha", "qq"]
LIMITS = (1, 2, 3, 24, 10 ** 59)


def by_going_through(rows, name, pieces, zone):
    """The first set, by the words of [62]."""
    out = []
    left = in_use(rows)
    while left and len(out) < pieces:
        best = max(points(rows, name, row[0]) for row in left)
        first = min(row for row in left if points(rows, name, row[0]) == best)
        left.remove(first)
        if sum(row[1] == first[1] for row in out) < zone:
            out.append(first)
    return [row[0] for row in out]


def namesakes():
    """Two names of houses that have the same score for "tides" when their weights are alike."""
    seen = {}
    for letters in itertools.product("abcdefghijklmnopqrstuvwxyz", repeat=3):
        house = "".join(letters)
        points_of = points([(house, "east", 1)], "tides", house)
        if points_of in seen:
            return seen[points_of], house
        seen[points_of] = house


class Scores(Grounds):

    def test_numbers_of_names(self):
        for name, due in (("a", 1), ("z", 26), ("aa", 28), ("az", 53), ("ba", 55), ("abc", 729 + 54 + 3),
                          ("zzzzzzzz", 27 ** 8 - 1)):
            self.assertEqual(number_of(name), due)
        for name in SOME + NAMES:
            self.assertEqual(number_of(name), number(name))
        for name in NO_NAMES:
            self.refused(NoName, {"name": name}, number_of, name)

    def test_a_score_reckoned_by_hand(self):
        # A = 1, B = 2: one = 103, two = 10611, and 10611 * 10611 + 1 is 112593322, of which 592986 is left.
        self.assertEqual(score(Town([("b", "east", 1)]), "a", "b"), 592987)
        self.assertEqual(score(Town([("b", "east", 7)]), "a", "b"), 7 * 592987)

    def test_scores(self):
        for name in SOME:
            for house, _, _ in ROWS:
                self.assertEqual(score(Town(ROWS), name, house), points(ROWS, name, house))
        self.assertEqual(score(Town(ROWS), "tides", "hd"), 0)
        self.assertEqual(score(Town([("b", "b", 5)]), "b", "b"), points([("b", "b", 5)], "b", "b"))

    def test_no_name_then_that_of_the_house_then_no_house(self):
        town = Town(ROWS)
        for name in NO_NAMES:
            self.refused(NoName, {"name": name}, score, town, name, "A B")
            self.refused(NoName, {"name": name}, score, town, name, "hx")
            self.refused(NoName, {"name": name}, score, town, "tides", name)
        for house in ("hx", "east", "h"):
            self.refused(NoHouse, {"name": house}, score, town, "tides", house)


class FirstSets(Grounds):

    def held(self, rows, name, pieces, zone):
        """Hold the first set, or its refusal, against going through the houses."""
        town = Town(rows)
        due = by_going_through(rows, name, pieces, zone)
        if len(due) < pieces:
            fields = {"name": name, "need": pieces, "have": len(due)}
            self.refused(NoRoom, fields, first_set, town, name, pieces=pieces, zone=zone)
            return
        told = first_set(town, name, pieces=pieces, zone=zone)
        self.assertIs(type(told), list)
        self.assertEqual(told, due)
        self.assertTrue(is_right(town, told, pieces=pieces, zone=zone))

    def test_drawn_towns(self):
        for seed in range(120):
            draw = random.Random(seed)
            rows = drawn_rows(draw, draw.randrange(1, 13), zones=draw.randrange(1, 5), weights=(0, 1, 1, 2, 500, 1000))
            for name in draw.sample(SOME, 3):
                for zone in LIMITS:
                    self.held(rows, name, draw.randrange(len(rows) + 2), zone)

    def test_none_to_twenty_four_pieces(self):
        letters = "abcdefghijklmnopqrstuvwx"
        rows = [("h" + sign, "z" + letters[at % 8], 1 + at) for at, sign in enumerate(letters)]
        for pieces in range(25):
            for zone in LIMITS:
                self.held(rows, "tides", pieces, zone)
        self.assertEqual(len(first_set(Town(rows), "tides", pieces=24, zone=3)), 24)
        fields = {"name": "tides", "need": 24, "have": 16}
        self.refused(NoRoom, fields, first_set, Town(rows), "tides", pieces=24, zone=2)

    def test_of_equal_scores_the_lesser_name(self):
        one, other = namesakes()
        for rows in ([(one, "east", 4), (other, "east", 4)], [(other, "west", 4), (one, "east", 4)]):
            self.assertEqual(score(Town(rows), "tides", one), score(Town(rows), "tides", other))
            self.assertEqual(first_set(Town(rows), "tides", pieces=1, zone=1), [min(one, other)])
            self.held(rows, "tides", 2, 2)

    def test_a_town_without_room(self):
        for rows in ([], [("ha", "east", 0)]):
            self.assertEqual(first_set(Town(rows), "a", pieces=0, zone=1), [])
            self.refused(NoRoom, {"name": "a", "need": 1, "have": 0}, first_set, Town(rows), "a", pieces=1, zone=1)

    def test_no_name_ahead_of_no_room(self):
        for name in NO_NAMES:
            self.refused(NoName, {"name": name}, first_set, Town(ROWS), name, pieces=24, zone=1)
            self.refused(NoName, {"name": name}, first_set, Town(ROWS), name, pieces=0, zone=1)

    def test_the_same_again_and_the_askers_own(self):
        town = Town(ROWS)
        due = by_going_through(ROWS, "tides", 4, 2)
        first_set(town, "tides", pieces=4, zone=2).clear()
        self.assertEqual(first_set(town, "tides", pieces=4, zone=2), due)
        self.assertEqual(town, Town(ROWS))


class Rooms(Grounds):

    def test_room(self):
        self.assertEqual([room(Town(ROWS), zone=zone) for zone in LIMITS], [3, 4, 5, 5, 5])
        self.assertEqual([room(Town(), zone=zone) for zone in LIMITS], [0] * 5)
        for seed in range(40):
            draw = random.Random(seed)
            rows = drawn_rows(draw, draw.randrange(1, 8))
            for zone in LIMITS:
                self.assertEqual(room(Town(rows), zone=zone), space(rows, zone))


class RightSets(Grounds):

    def test_all_lists_of_houses(self):
        rows = ROWS[:5]
        names = [row[0] for row in rows] + ["hx"]
        for zone in (1, 2, 3):
            for pieces in range(5):
                due = {frozenset(homes) for homes in right_sets(rows, pieces, zone)}
                for many in range(5):
                    for homes in itertools.product(names, repeat=many):
                        told = is_right(Town(rows), list(homes), pieces=pieces, zone=zone)
                        self.assertIs(told, many == pieces and len(set(homes)) == many and frozenset(homes) in due)

    def test_one_thing_otherwise(self):
        town = Town(ROWS)
        right = ["he", "ha", "hc", "hb"]
        self.assertIs(is_right(town, right, pieces=4, zone=2), True)
        for wrong in (["he", "ha", "hc", "ha"], ["he", "ha", "hc", "hx"], ["he", "ha", "hd", "hb"],
                      ["hf", "ha", "hc", "hb"], ["he", "ha", "hc", "hb", "hf"], ["he", "ha", "hc"], []):
            self.assertIs(is_right(town, wrong, pieces=4, zone=2), False)
        self.assertIs(is_right(town, right, pieces=4, zone=1), False)
        for pieces in (3, 5):
            self.assertIs(is_right(town, right, pieces=pieces, zone=2), False)
        self.assertIs(is_right(town, [], pieces=0, zone=1), True)

    def test_what_is_no_name_is_no_house(self):
        for name in NO_NAMES:
            self.assertIs(is_right(Town(ROWS), ["he", name], pieces=2, zone=2), False)

    def test_what_is_handed_in_is_as_it_was(self):
        homes = ["he", "ha", "hc", "hb"]
        is_right(Town(ROWS), homes, pieces=4, zone=2)
        self.assertEqual(homes, ["he", "ha", "hc", "hb"])


class OneHouseOtherwise(unittest.TestCase):

    def held(self, rows, other, house, *, comes):
        """[63]: the first sets are alike, or the one behind has that house, where it comes, in place of another one."""
        for zone in (1, 2, 3):
            for pieces in range(len(rows) + 2):
                try:
                    before = set(first_set(Town(rows), "tides", pieces=pieces, zone=zone))
                    behind = set(first_set(Town(other), "tides", pieces=pieces, zone=zone))
                except NoRoom:
                    continue
                if before == behind:
                    self.alike += 1
                    continue
                self.unlike += 1
                if comes:
                    self.assertEqual(behind - before, {house})
                    self.assertEqual(len(before - behind), 1)
                else:
                    self.assertEqual(before - behind, {house})
                    self.assertEqual(len(behind - before), 1)

    def test_comes_goes_weighs_more_or_less(self):
        self.alike = self.unlike = 0
        for seed in range(60):
            draw = random.Random(seed)
            rows = drawn_rows(draw, draw.randrange(2, 11), weights=(0, 1, 2, 3, 5, 9))
            at = draw.randrange(len(rows))
            house, where, weight = rows[at]
            without = rows[:at] + rows[at + 1:]
            heavier = without + [(house, where, weight + draw.randrange(1, 9))]
            self.held(without, rows, house, comes=True)
            self.held(rows, without, house, comes=False)
            self.held(rows, heavier, house, comes=True)
            self.held(heavier, rows, house, comes=False)
        self.assertTrue(min(self.alike, self.unlike) > 200, (self.alike, self.unlike))

    def test_no_house_outside_is_ahead_of_one_in_whose_place_it_could_stand(self):
        for seed in range(60):
            draw = random.Random(seed)
            rows = drawn_rows(draw, draw.randrange(2, 11))
            town = Town(rows)
            for zone in (1, 2, 3):
                pieces = draw.randrange(room(town, zone=zone) + 1)
                told = first_set(town, "tides", pieces=pieces, zone=zone)
                for inside, (house, _, _) in itertools.product(told, in_use(rows)):
                    others = [one for one in told if one != inside] + [house]
                    if house not in told and is_right(town, others, pieces=pieces, zone=zone):
                        first, second = [(-points(rows, "tides", one), one) for one in (inside, house)]
                        self.assertTrue(first < second)


if __name__ == "__main__":
    unittest.main()
