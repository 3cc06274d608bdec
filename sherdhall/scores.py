"""Scores: which houses of a town come first for a name, and which ones may hold the pieces of one row."""

from sherdhall.errors import NoRoom
from sherdhall.names import LETTERS, check_name

# Numbers of names are told by figures from 1 to 26, scores by what is left by a prime.
STEP = 27
ROUND = 1000003


def number_of(name):
    """The number that the letters of a name tell."""
    check_name(name)
    number = 0
    for sign in name:
        number = number * STEP + LETTERS.index(sign) + 1
    return number


def score(town, name, house):
    """The score of a house for a name."""
    first = number_of(name)
    second = number_of(house)
    weight = town.weight_of(house)
    one = (101 * first + second) % ROUND
    two = (one * one + second) % ROUND
    return weight * (1 + (two * two + first) % ROUND)


def rows_in_use(town):
    """The rows of the houses in which something may be laid: those of weights above 0, in the order of their names."""
    return [row for row in town.listed() if row[2] > 0]


def zones_in_use(town):
    """The zones that have a house in which something may be laid, each once, in order."""
    return sorted({where for _, where, _ in rows_in_use(town)})


def room(town, *, zone):
    """The greatest number of pieces that can be laid in unlike houses, at most so many in one zone."""
    zones = [where for _, where, _ in rows_in_use(town)]
    return sum([min(zone, zones.count(where)) for where in zones_in_use(town)])


def first_set(town, name, *, pieces, zone):
    """The houses for the pieces of a name's row, by their scores, the greatest first."""
    check_name(name)
    have = room(town, zone=zone)
    if have < pieces:
        raise NoRoom(name, pieces, have)
    scored = sorted([(-score(town, name, house), house, where) for house, where, _ in rows_in_use(town)])
    out = []
    taken = {}
    for _, house, where in scored:
        many = taken.get(where, 0)
        if len(out) < pieces and many < zone:
            out.append(house)
            taken[where] = many + 1
    return out


def is_right(town, homes, *, pieces, zone):
    """Whether a list of texts is so many unlike houses of weights above 0, at most so many of them in one zone."""
    zones = {house: where for house, where, _ in rows_in_use(town)}
    if len(homes) != pieces or len(set(homes)) != pieces:
        return False
    if not all([home in zones for home in homes]):
        return False
    taken = [zones[home] for home in homes]
    return all([taken.count(where) <= zone for where in taken])
