"""The fewest reads: the shortest recipe, and fillings that show that there is no shorter one."""

from itertools import combinations

from sherdhall.fillings import units
from sherdhall.mending import check_asked, recipe, told_by
from sherdhall.shapes import PLAIN, is_filling
from sherdhall.span import Span


def choices(places, many):
    """All lists of so many of the places."""
    return [list(chosen) for chosen in combinations(places, many)]


def least_recipe(left, wanted, *, shape=PLAIN):
    """A recipe of the wanted place by places of left with the fewest reads."""
    found = recipe(left, wanted, shape=shape)
    basis = units(shape=shape)
    for many in range(1, len(found)):
        for places in choices(sorted(set(left)), many):
            span = Span(places, basis)
            if span.tells(wanted):
                return told_by(span, wanted)
    return found


def is_missed(places, fillings):
    """Whether one of the fillings is 0 at all these places."""
    return any([all([filling[place] == 0 for place in places]) for filling in fillings])


def no_fewer(left, wanted, *, shape=PLAIN):
    """Fillings that show that one read less than those of least_recipe is not enough."""
    many = len(least_recipe(left, wanted, shape=shape)) - 1
    basis = units(shape=shape)
    fillings = []
    for places in choices(sorted(set(left)), many):
        if not is_missed(places, fillings):
            fillings.append(Span(places, basis).ghost_of(wanted))
    return fillings


def shows(fillings, left, wanted, many, *, shape=PLAIN):
    """Whether something, of any kind, is a list of fillings that shows that so many reads are not enough."""
    check_asked(left, wanted, shape)
    if not isinstance(fillings, list):
        return False
    if not all([is_filling(filling, shape=shape) and filling[wanted] != 0 for filling in fillings]):
        return False
    places = sorted(set(left))
    # What misses a list misses each part of it, so the longest lists are enough.
    return all([is_missed(chosen, fillings) for chosen in choices(places, min(many, len(places)))])
