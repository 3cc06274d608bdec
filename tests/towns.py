"""What the tests of towns and settlings need: drawn towns and tables, and what is told of them, found by trying all."""

import itertools

NAMES = ["ha", "hb", "hc", "hd", "he", "hf", "hg", "hh", "hi", "hj", "hk", "hl"]
ZONES = ["east", "north", "south", "west"]
# Houses of tables that are no town's.
FOREIGN = ["xa", "xb", "xc"]


def number(name):
    """The number of a name, by the words of [61]."""
    return sum((ord(sign) - ord("a") + 1) * 27 ** at for at, sign in enumerate(reversed(name)))


def points(rows, name, house):
    """The score of a house, by the words of [61]."""
    weight = {row[0]: row[2] for row in rows}[house]
    first, second = number(name), number(house)
    one = (101 * first + second) % 1000003
    two = (one * one + second) % 1000003
    return weight * (1 + (two * two + first) % 1000003)


def in_use(rows):
    """The rows of weights above 0, by names."""
    return sorted(row for row in rows if row[2] > 0)


def is_right_set(rows, homes, zone):
    """Whether unlike houses have weights above 0, and at most so many are of one zone."""
    zones = {house: where for house, where, _ in in_use(rows)}
    where = [zones.get(home) for home in homes]
    return None not in where and len(set(homes)) == len(homes) and all(where.count(one) <= zone for one in where)


def right_sets(rows, pieces, zone):
    """All right sets of so many pieces, as tuples."""
    houses = [row[0] for row in in_use(rows)]
    return [homes for homes in itertools.combinations(houses, pieces) if is_right_set(rows, homes, zone)]


def space(rows, zone):
    """The greatest number of pieces of a right set, by trying all numbers."""
    return max(pieces for pieces in range(len(rows) + 1) if right_sets(rows, pieces, zone))


def all_tables(rows, table, zone):
    """All tables of right sets with the same tickets and as many pieces of each."""
    tickets = sorted(table)
    for chosen in itertools.product(*[right_sets(rows, len(table[ticket]), zone) for ticket in tickets]):
        yield dict(zip(tickets, chosen))


def moves_to(table, other):
    """How many houses of the other one's rows are not in the first one's."""
    return sum(len(set(other[ticket]) - set(table[ticket])) for ticket in table)


def level_of(rows, table):
    """The least level that a table of houses of weights above 0 is within, by its loads alone."""
    weights = {house: weight for house, _, weight in rows}
    homes = [home for ticket in table for home in table[ticket]]
    return max([-(-homes.count(home) // weights[home]) for home in homes], default=0)


def fewest_by_levels(rows, table, zone):
    """The fewest moves within each level from 0 up to the number of tickets, None where no table is, by trying all."""
    least = {}
    for other in all_tables(rows, table, zone):
        level = level_of(rows, other)
        least[level] = min(least.get(level, 10 ** 9), moves_to(table, other))
    out = []
    for level in range(len(table) + 1):
        found = [least[one] for one in least if one <= level]
        out.append(min(found) if found else None)
    return out


def drawn_rows(draw, many, zones=3, weights=(0, 1, 1, 1, 2, 3)):
    """The rows of a town with so many houses, in no order."""
    names = draw.sample(NAMES, many)
    return [(name, draw.choice(ZONES[:zones]), draw.choice(weights)) for name in names]


def drawn_table(draw, rows, tickets, most, foreign=FOREIGN):
    """A table of so many tickets, each with one to most pieces, in houses of the town and others."""
    houses = [row[0] for row in rows] + list(foreign)
    numbers = draw.sample(range(50), tickets)
    return {ticket: draw.sample(houses, draw.randrange(1, min(most, len(houses)) + 1)) for ticket in numbers}


def copied(table):
    """The table, with lists of its own."""
    return {ticket: list(table[ticket]) for ticket in table}
