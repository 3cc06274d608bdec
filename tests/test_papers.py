"""[68] and [69]: papers, and that their worth is never above the moves to any table within the level."""

import random
import unittest

from sherdhall.papers import Paper, worth
from sherdhall.town import Town
from samples import NO_WHOLES
from towns import all_tables, copied, drawn_rows, drawn_table, in_use, level_of, moves_to

ROWS = [("ha", "east", 1), ("hb", "east", 2), ("hc", "west", 3), ("hd", "north", 0)]
TABLE = {4: ["ha", "hc"], 9: ["hd"]}


def by_going_through(rows, table, paper, zone, level):
    """The worth, by the words of [68]."""
    total = 0
    for ticket in table:
        own = paper.for_tickets.get(ticket, 0)
        total -= own * len(table[ticket])
        for where in {row[1] for row in in_use(rows)}:
            total += zone * min(0, own - paper.for_zones.get((ticket, where), 0))
        for house, where, _ in in_use(rows):
            k = 0 if house in table[ticket] else 1
            total += min(0, k + paper.for_zones.get((ticket, where), 0) - paper.for_houses.get(house, 0))
    for house, _, weight in in_use(rows):
        total += level * weight * min(0, paper.for_houses.get(house, 0))
    return total


def drawn_paper(draw, rows, table, widest):
    """A paper with some numbers from -widest to widest, perhaps also for what the town has not."""
    def numbers(keys):
        return {key: draw.randrange(-widest, widest + 1) for key in keys if draw.randrange(5) > 0}
    zones = sorted({row[1] for row in rows}) + ["nowhere"]
    tickets = list(table) + [77]
    return Paper(numbers(tickets), numbers([(ticket, where) for ticket in tickets for where in zones]),
                 numbers([row[0] for row in rows] + ["xa"]))


def near_paper(draw, rows, table):
    """A paper such that much of what it may lose is 0: a number for all, and less for some."""
    base = -draw.randrange(4)
    def numbers(keys):
        return {key: base + (draw.randrange(5) == 0) for key in keys}
    zones = sorted({row[1] for row in rows})
    return Paper(numbers(table), numbers([(ticket, where) for ticket in table for where in zones]),
                 {row[0]: -draw.randrange(3) for row in rows})


class Papers(unittest.TestCase):

    def test_it_keeps_copies(self):
        handed = ({4: 1, 9: -2}, {(4, "east"): 3}, {"ha": -1})
        paper = Paper(*handed)
        self.assertEqual((paper.for_tickets, paper.for_zones, paper.for_houses), handed)
        due = Paper({4: 1, 9: -2}, {(4, "east"): 3}, {"ha": -1})
        for numbers in handed:
            numbers.clear()
        self.assertEqual(paper, due)
        other = Paper(due.for_tickets, due.for_zones, due.for_houses)
        other.for_tickets[4] = 7
        other.for_zones.clear()
        other.for_houses["hb"] = 2
        self.assertEqual(paper, due)
        self.assertNotEqual(other, due)

    def test_equal_where_what_lacks_is_0(self):
        paper = Paper({4: 1, 9: 0}, {(4, "east"): 3, (9, "west"): 0}, {"ha": 0, "hb": -1})
        other = Paper({4: 1}, {(4, "east"): 3}, {"hb": -1, "hc": 0})
        self.assertIs(paper == other, True)
        self.assertIs(paper != other, False)
        self.assertIs(Paper({}, {}, {}) == Paper({1: 0}, {(1, "a"): 0}, {"a": 0}), True)

    def test_each_number_counts(self):
        paper = Paper({4: 1}, {(4, "east"): 3}, {"hb": -1})
        for other in (Paper({4: 2}, {(4, "east"): 3}, {"hb": -1}), Paper({4: 1}, {(4, "east"): -3}, {"hb": -1}),
                      Paper({4: 1}, {(4, "east"): 3}, {"hb": 1}), Paper({}, {(4, "east"): 3}, {"hb": -1}),
                      Paper({4: 1}, {}, {"hb": -1}), Paper({4: 1}, {(4, "east"): 3}, {}),
                      Paper({4: 1, 5: 1}, {(4, "east"): 3}, {"hb": -1}), Paper({5: 1}, {(4, "east"): 3}, {"hb": -1}),
                      Paper({4: 1}, {(4, "west"): 3}, {"hb": -1}), Paper({4: 1}, {(4, "east"): 3}, {"ha": -1})):
            self.assertIs(paper == other, False)
            self.assertIs(paper != other, True)

    def test_equal_to_nothing_else(self):
        paper = Paper({}, {}, {})
        for other in NO_WHOLES + [0, ({}, {}, {}), {}, []]:
            self.assertIs(paper == other, False)
            self.assertIs(other == paper, False)


class Worth(unittest.TestCase):

    def test_reckoned_by_hand(self):
        town = Town(ROWS)
        self.assertEqual(worth(town, TABLE, Paper({}, {}, {}), zone=1, level=5), 0)
        # The two pieces of ticket 4, then twice the limit, once for each zone with a house of weight above 0.
        self.assertEqual(worth(town, TABLE, Paper({4: -3}, {}, {}), zone=2, level=1), 6 - 2 * 3 * 2)
        # Of ticket 9, which has none of the houses, a 2 in the east costs 0 at both of them, but the limit once.
        self.assertEqual(worth(town, TABLE, Paper({}, {(9, "east"): 2}, {}), zone=3, level=1), -6)
        self.assertEqual(worth(town, TABLE, Paper({}, {(9, "east"): -2}, {}), zone=3, level=1), -2)
        self.assertEqual(worth(town, TABLE, Paper({}, {(4, "east"): -2}, {}), zone=3, level=1), -2 - 1)
        # A house's number below 0 costs the level and its weight, one above 0 what it is above k.
        self.assertEqual(worth(town, TABLE, Paper({}, {}, {"hc": -2}), zone=1, level=4), -2 * 3 * 4)
        self.assertEqual(worth(town, TABLE, Paper({}, {}, {"hc": 2}), zone=1, level=4), -2 - 1)
        # What is no ticket's, and no house of weight above 0, does not count.
        self.assertEqual(worth(town, TABLE, Paper({1: 5}, {(1, "east"): 7, (4, "north"): 9}, {"hd": -5, "xa": 3}),
                               zone=1, level=4), 0)

    def test_drawn_papers(self):
        for seed in range(200):
            draw = random.Random(seed)
            rows = drawn_rows(draw, draw.randrange(9))
            table = drawn_table(draw, rows, draw.randrange(5), 4)
            paper = drawn_paper(draw, rows, table, draw.choice([1, 3, 10 ** 30]))
            zone, level = draw.choice([1, 2, 3, 10 ** 20]), draw.choice([0, 1, 2, 9999])
            handed = copied(table)
            self.assertEqual(worth(Town(rows), table, paper, zone=zone, level=level),
                             by_going_through(rows, table, paper, zone, level))
            self.assertEqual(table, handed)

    def test_never_above_the_moves_to_any_table_within_the_level(self):
        positive = 0
        for seed in range(60):
            draw = random.Random(seed)
            rows = drawn_rows(draw, draw.randrange(2, 6))
            table = drawn_table(draw, rows, draw.randrange(1, 4), 2)
            zone = draw.choice([1, 2])
            others = [(level_of(rows, other), moves_to(table, other)) for other in all_tables(rows, table, zone)]
            for level in range(4):
                within = [moves for least, moves in others if least <= level]
                for _ in range(12):
                    paper = draw.choice([near_paper(draw, rows, table), drawn_paper(draw, rows, table, 2)])
                    told = worth(Town(rows), table, paper, zone=zone, level=level)
                    positive += told > 0
                    self.assertTrue(all(told <= moves for moves in within))
        self.assertTrue(positive > 50, positive)


if __name__ == "__main__":
    unittest.main()
