"""Numbers by 97: what a whole number is, and how numbers are counted together."""

from sherdhall.errors import NoRest

PRIME = 97


def is_whole(thing):
    """Whether something, of any kind, is a whole number."""
    return isinstance(thing, int) and not isinstance(thing, bool)


def is_between(thing, least, most):
    """Whether something, of any kind, is a whole number from least to most."""
    return is_whole(thing) and least <= thing <= most


def is_rest(thing):
    """Whether something, of any kind, is a whole number from 0 to 96."""
    return is_between(thing, 0, PRIME - 1)


def plus(one, other):
    """The sum, by 97."""
    return (one + other) % PRIME


def minus(one, other):
    """The difference, the first without the second, by 97."""
    return (one - other) % PRIME


def times(one, other):
    """The product, by 97."""
    return (one * other) % PRIME


def power(one, many):
    """The product of so many times one, by 97."""
    product = 1
    square = one
    rest = many
    while rest > 0:
        if rest % 2 == 1:
            product = times(product, square)
        square = times(square, square)
        rest = rest // 2
    return product


def over(one, other):
    """The number from 0 to 96 whose product with the second has the first one's rest."""
    if other % PRIME == 0:
        raise NoRest(other)
    # As 97 is a prime, the power 96 of the second is 1: so its power 95 undoes it.
    return times(one, power(other, PRIME - 2))


def sum_of_products(factors, numbers):
    """The products of factors and numbers, each with each, added up by 97."""
    return sum([factor * number for factor, number in zip(factors, numbers)]) % PRIME
