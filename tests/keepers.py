"""What the tests of keepers and desks need: towns with enough room, keepers, and drawn histories of them."""

from sherdhall.ground import Ground
from sherdhall.keeper import Keeper
from sherdhall.town import Town
from oracle import HOUSES

# Twelve houses in five zones: so a row in ten pieces, at most three in a zone, has room even without some of them.
ROWS = [(house, ["east", "west", "north", "south", "mid"][at % 5], at % 3 + 1) for at, house in enumerate(HOUSES)]
SMALL_SHAPE = (1, 2, 1)
NAMES = ["a", "bb", "ccc", "tides"]


def made_keeper(*, rows=ROWS, houses=HOUSES, fuse=None, **more):
    """A ground and a keeper on it."""
    ground = Ground(list(houses), fuse=fuse)
    return ground, Keeper(ground, Town(rows), **more)


def zones_of(town):
    """The zones of a town's houses, by their names."""
    return {house: where for house, where, _ in town.listed()}


def in_zones(homes, town):
    """How many of the homes each zone of the town has."""
    zones = [zones_of(town).get(home) for home in homes]
    return {where: zones.count(where) for where in town.zone_names()}
