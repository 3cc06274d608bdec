"""Moves: the pieces that go from house to house, and rounds in which some of them go side by side."""

from sherdhall.errors import NoPlace, NoTicket, Taken
from sherdhall.field import is_between
from sherdhall.parting import Parting, ends_of

LANES = 2


def moves_of(town, table, other):
    """Tuples (ticket, place, from, to) of the places whose houses differ; from is None where the town has it not."""
    houses = town.house_names()
    out = []
    for ticket in sorted(table):
        for place, (old, new) in enumerate(zip(table[ticket], other[ticket])):
            if old != new:
                out.append((ticket, place, old if old in houses else None, new))
    return out


def moved(table, moves):
    """The table when the moves are done, one after the other."""
    out = {ticket: list(table[ticket]) for ticket in table}
    for ticket, place, _, house in moves:
        if ticket not in out:
            raise NoTicket(ticket)
        homes = out[ticket]
        if not is_between(place, 0, len(homes) - 1):
            raise NoPlace(place)
        if house in homes and homes[place] != house:
            raise Taken(house)
        homes[place] = house
    return out


def counted(moves):
    """How many of the moves are from or to each house: a dict by tuples of the house and "gives" or "gets"."""
    out = {}
    for _, _, source, house in moves:
        for end in ((source, "gives"), (house, "gets")):
            if end[0] is not None:
                out[end] = out.get(end, 0) + 1
    return out


def neck(moves):
    """The house and the side that the greatest number of the moves have, and this number; None of no moves."""
    if len(moves) == 0:
        return None
    ends = counted(moves)
    # By their letters, gets comes ahead of gives.
    number, house, side = min([(-ends[end], *end) for end in ends])
    return (house, side, -number)


def rounds(moves, *, lanes=LANES):
    """The moves in as few rounds as can be: in each a house gives, and gets, at most as often as there are lanes."""
    if len(moves) == 0:
        return []
    _, _, most = neck(moves)
    many = (most + lanes - 1) // lanes
    parting = Parting(ends_of(moves, many), many)
    return [[moves[number] for number in parting.numbers(at)] for at in range(many)]


def is_rounds(moves, told, *, lanes=LANES):
    """Whether a list of lists of moves has each of the moves once, in rounds for the lanes."""
    done = [move for part in told for move in part]
    if len(done) != len(moves) or not all([move in done for move in moves]):
        return False
    return all([len(part) > 0 and neck(part)[2] <= lanes for part in told])
