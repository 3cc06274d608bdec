"""Shapes: which places a row's pieces stand in, and which checks bind their numbers."""

from sherdhall.errors import NoPlace, NoShape
from sherdhall.field import PRIME, is_between, is_rest, power, sum_of_products

PLAIN = (2, 3, 2)
MARKS = (1, 11, 40, 30)


def is_shape(thing):
    """Whether something, of any kind, is a shape."""
    if not isinstance(thing, tuple) or len(thing) != 3:
        return False
    groups, size, sums = thing
    return is_between(groups, 1, 4) and is_between(size, 1, 4) and is_between(sums, 0, 2)


def check_shape(shape):
    """Refuse what is no shape."""
    if not is_shape(shape):
        raise NoShape(shape)


def count(*, shape=PLAIN):
    """How many places the shape has."""
    check_shape(shape)
    groups, size, sums = shape
    return groups * (size + 1) + sums


def is_place(thing, *, shape=PLAIN):
    """Whether something, of any kind, is a place of the shape."""
    return is_between(thing, 0, count(shape=shape) - 1)


def check_place(thing, shape):
    """Refuse what is no place of the shape."""
    if not is_place(thing, shape=shape):
        raise NoPlace(thing)


def kind_of(place, *, shape=PLAIN):
    """What the place is: ("data", group, at), ("local", group) or ("over", number)."""
    check_place(place, shape)
    groups, size, _ = shape
    group, at = divmod(place, size + 1)
    if group >= groups:
        return ("over", place - groups * (size + 1) + 1)
    if at == size:
        return ("local", group)
    return ("data", group, at)


def data_places(*, shape=PLAIN):
    """The data places, rising."""
    places = range(count(shape=shape))
    return [place for place in places if kind_of(place, shape=shape)[0] == "data"]


def mark(place, *, shape=PLAIN):
    """The mark of a data place."""
    kind = kind_of(place, shape=shape)
    if kind[0] != "data":
        raise NoPlace(place)
    return MARKS[kind[1]] + kind[2]


def local_factor(place, group, shape):
    """The factor of a place in the check of a group."""
    kind = kind_of(place, shape=shape)
    if kind == ("local", group):
        return PRIME - 1
    if kind[0] == "data" and kind[1] == group:
        return 1
    return 0


def over_factor(place, number, shape):
    """The factor of a place in the check of the over place with that number."""
    kind = kind_of(place, shape=shape)
    if kind == ("over", number):
        return PRIME - 1
    if kind[0] == "data":
        return power(mark(place, shape=shape), number)
    return 0


def checks(*, shape=PLAIN):
    """The checks: rows of factors, one for each place, first of the groups, then of the over places."""
    places = range(count(shape=shape))
    groups, _, sums = shape
    rows = [[local_factor(place, group, shape) for place in places] for group in range(groups)]
    for number in range(1, sums + 1):
        rows.append([over_factor(place, number, shape) for place in places])
    return rows


def is_filling(thing, *, shape=PLAIN):
    """Whether something, of any kind, is a list of numbers, one for each place, that keeps all checks."""
    rows = checks(shape=shape)
    if not isinstance(thing, list) or len(thing) != count(shape=shape):
        return False
    if not all([is_rest(number) for number in thing]):
        return False
    return all([sum_of_products(row, thing) == 0 for row in rows])
