"""Fillings made: the units, of which one data number is 1, and all others, as sums of them."""

from sherdhall.field import sum_of_products
from sherdhall.shapes import checks, count, data_places


def units(*, shape):
    """For each data place, rising, the filling of which its number is 1 and all other data numbers are 0."""
    rows = checks(shape=shape)
    data = data_places(shape=shape)
    places = range(count(shape=shape))
    # Each check fixes the one place behind its factor 96, and these come in the order of the checks.
    fixed = [place for place in places if place not in data]
    out = []
    for one in data:
        numbers = {place: row[one] for place, row in zip(fixed, rows)}
        numbers[one] = 1
        out.append([numbers.get(place, 0) for place in places])
    return out


def filled(numbers, basis):
    """The filling with these data numbers: so many times each of the units in basis, added up."""
    places = range(len(basis[0]))
    return [sum_of_products(numbers, [unit[place] for unit in basis]) for place in places]
