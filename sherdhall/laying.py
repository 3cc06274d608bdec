"""Laying: rows put into pieces, one for each place of a shape, and told back from them."""

from sherdhall.errors import NoPlace, NoRow
from sherdhall.field import is_rest
from sherdhall.fillings import filled, units
from sherdhall.shapes import PLAIN, count, data_places

MOST = 60


def is_row(thing):
    """Whether something, of any kind, is a row."""
    return isinstance(thing, list) and len(thing) <= MOST and all([is_rest(number) for number in thing])


def check_row(thing):
    """Refuse what is no row."""
    if not isinstance(thing, list) or len(thing) > MOST:
        raise NoRow(None)
    for at, number in enumerate(thing):
        if not is_rest(number):
            raise NoRow(at)


def cells_for(many, *, shape=PLAIN):
    """How many cells a piece has of a row of so many numbers."""
    wide = len(data_places(shape=shape))
    return (many + wide - 1) // wide


def laid(row, *, shape=PLAIN):
    """The pieces of a row: a dict by places, rising."""
    basis = units(shape=shape)
    check_row(row)
    wide = len(basis)
    cells = cells_for(len(row), shape=shape)
    numbers = row + [0] * (cells * wide - len(row))
    fillings = [filled(numbers[cell * wide:(cell + 1) * wide], basis) for cell in range(cells)]
    return {place: [filling[place] for filling in fillings] for place in range(count(shape=shape))}


def unlaid(pieces, many, *, shape=PLAIN):
    """The row of so many numbers that was laid in these pieces."""
    data = data_places(shape=shape)
    for place in needed(0, many, shape=shape):
        if place not in pieces:
            raise NoPlace(place)
    return [pieces[data[at % len(data)]][at // len(data)] for at in range(many)]


def needed(first, behind, *, shape=PLAIN):
    """The places of the data pieces on which the numbers from first up to behind lie, behind itself not."""
    data = data_places(shape=shape)
    # The first number at or behind first that lies on the data place numbered at is first + (at - first) % len(data).
    return [place for at, place in enumerate(data) if first + (at - first) % len(data) < behind]
