"""Mending: which places are told by those that are left, and how their pieces are made."""

from sherdhall.errors import Hidden, NoPlace, NoRow
from sherdhall.field import PRIME, is_between, sum_of_products
from sherdhall.fillings import units
from sherdhall.laying import MOST, needed, unlaid
from sherdhall.shapes import PLAIN, check_place, check_shape, count, data_places, is_filling, is_place, kind_of
from sherdhall.span import Span


class Recipe:
    """How the piece of a wanted place is made: which places are read, and by which factors."""

    def __init__(self, wanted, reads, factors):
        self.wanted = wanted
        self.reads = list(reads)
        self.factors = list(factors)

    def made(self, pieces):
        """The piece of the wanted place that comes of these pieces."""
        for place in self.reads:
            if place not in pieces:
                raise NoPlace(place)
        read = [pieces[place] for place in self.reads]
        return [sum_of_products(self.factors, numbers) for numbers in zip(*read)]

    def __eq__(self, other):
        return (isinstance(other, Recipe) and self.wanted == other.wanted and self.reads == other.reads
                and self.factors == other.factors)

    def __len__(self):
        return len(self.reads)

    def __repr__(self):
        return f"Recipe({self.wanted!r}, {self.reads!r}, {self.factors!r})"


def check_left(left, shape):
    """Refuse what is no shape, then the first of left that is no place."""
    check_shape(shape)
    for place in left:
        check_place(place, shape)


def check_asked(left, wanted, shape):
    """Refuse like check_left, then a wanted place that is none."""
    check_left(left, shape)
    check_place(wanted, shape)


def told_by(span, wanted):
    """The recipe by which a span tells the wanted place."""
    factors = span.factors_for(wanted)
    reads = [place for place, factor in enumerate(factors) if factor != 0]
    return Recipe(wanted, reads, [factors[place] for place in reads])


def recipe(left, wanted, *, shape=PLAIN):
    """A recipe of the wanted place by places of left."""
    check_asked(left, wanted, shape)
    if wanted in left:
        return Recipe(wanted, [wanted], [1])
    span = Span(left, units(shape=shape))
    if not span.tells(wanted):
        raise Hidden(wanted, span.ghost_of(wanted))
    return told_by(span, wanted)


def recipes(left, *, shape=PLAIN):
    """The recipes of all places that are not left and are told: a dict by places, rising."""
    check_left(left, shape)
    span = Span(left, units(shape=shape))
    lost = [place for place in range(count(shape=shape)) if place not in left]
    return {place: told_by(span, place) for place in lost if span.tells(place)}


def all_told(left, *, shape=PLAIN):
    """Whether all places are told by left, by how many are lost."""
    check_left(left, shape)
    groups, _, sums = shape
    lost = [kind_of(place, shape=shape) for place in range(count(shape=shape)) if place not in left]
    due = len([kind for kind in lost if kind[0] == "over"])
    for group in range(groups):
        many = len([kind for kind in lost if kind[0] != "over" and kind[1] == group])
        due += max(many - 1, 0)
    return due <= sums


def mended(pieces, wanted, *, shape=PLAIN):
    """The piece of the wanted place, made from these pieces."""
    return recipe(list(pieces), wanted, shape=shape).made(pieces)


def row_of(pieces, many, *, shape=PLAIN):
    """The row of so many numbers, from whichever of its pieces are there."""
    check_left(list(pieces), shape)
    wide = len(data_places(shape=shape))
    if not is_between(many, 0, MOST) or any([wide * len(piece) < many for piece in pieces.values()]):
        raise NoRow(many)
    read = {place: mended(pieces, place, shape=shape) for place in needed(0, many, shape=shape)}
    return unlaid(read, many, shape=shape)


def are_reads(thing, left, shape):
    """Whether something, of any kind, is a list of places of left, rising, each once."""
    if not isinstance(thing, list) or not all([is_place(place, shape=shape) for place in thing]):
        return False
    return all([place in left for place in thing]) and thing == sorted(set(thing))


def are_factors(thing, many):
    """Whether something, of any kind, is a list of so many factors, 1 to 96."""
    return isinstance(thing, list) and len(thing) == many and all([is_between(one, 1, PRIME - 1) for one in thing])


def is_recipe(thing, left, *, shape=PLAIN):
    """Whether something, of any kind, is a recipe by places of left that is right in every filling."""
    check_left(left, shape)
    if not isinstance(thing, Recipe) or not is_place(thing.wanted, shape=shape):
        return False
    if not are_reads(thing.reads, left, shape) or not are_factors(thing.factors, len(thing.reads)):
        return False
    for unit in units(shape=shape):
        if unit[thing.wanted] != sum_of_products(thing.factors, [unit[place] for place in thing.reads]):
            return False
    return True


def is_ghost(thing, left, wanted, *, shape=PLAIN):
    """Whether something, of any kind, is a filling that is 0 at all of left and not 0 at wanted."""
    check_asked(left, wanted, shape)
    if not is_filling(thing, shape=shape) or thing[wanted] == 0:
        return False
    return all([thing[place] == 0 for place in left])
