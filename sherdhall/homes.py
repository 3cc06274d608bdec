"""Homes: tables of the houses in which rows have their pieces, their loads and moves, and how lists are paired."""

from sherdhall.scores import is_right


def loads(table):
    """How many pieces each house has that has any: a dict, by names."""
    homes = sorted([home for ticket in table for home in table[ticket]])
    return {home: homes.count(home) for home in homes}


def pieces_in(table):
    """How many pieces a table has in all."""
    return sum([len(homes) for homes in table.values()])


def is_within(town, table, *, zone, level):
    """Whether each row is a right set, and no house has more pieces than so many times its weight."""
    for homes in table.values():
        if not is_right(town, homes, pieces=len(homes), zone=zone):
            return False
    return all([many <= level * town.weight_of(house) for house, many in loads(table).items()])


def many_moves(table, other):
    """How many houses the rows of another table have that those of the first one have not."""
    return sum([len([house for house in other[ticket] if house not in table[ticket]]) for ticket in table])


def zone_or_none(town, house):
    """The zone of a house; None where it is none of the town's."""
    return town.zone_of(house) if house in town.house_names() else None


def paired(town, homes, houses):
    """The houses, in the order of places in which as few zones as can be change against homes."""
    out = [home if home in houses else None for home in homes]
    new = sorted([house for house in houses if house not in homes])
    for zone in town.zone_names():
        places = [at for at, home in enumerate(homes) if home not in houses and zone_or_none(town, home) == zone]
        coming = [house for house in new if town.zone_of(house) == zone]
        for at, house in zip(places, coming):
            out[at] = house
    left = [house for house in new if house not in out]
    places = [at for at, house in enumerate(out) if house is None]
    for at, house in zip(places, left):
        out[at] = house
    return out
