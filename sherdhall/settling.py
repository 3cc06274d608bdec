"""Settling: a table brought within a level by the fewest moves, and papers that show that there are no fewer."""

from sherdhall.errors import NoLevel, NoMoves, NoRoom
from sherdhall.homes import pieces_in
from sherdhall.scores import room
from sherdhall.trial import Trial


class Settling:
    """A table within a level, with how many moves it takes, and the papers that show that fewer are not enough."""

    def __init__(self, trial, most, before):
        self.level = trial.level
        self.settled = trial.settled
        self.many = trial.many
        self.paper = trial.paper_above(most)
        self.below = None if before is None else before.paper_above(most)


def check_room(town, table, zone):
    """Refuse a table of which a ticket has more pieces than the town has room."""
    have = room(town, zone=zone)
    for ticket in sorted(table):
        if len(table[ticket]) > have:
            raise NoRoom(ticket, len(table[ticket]), have)


def fewest_moves(town, table, zone):
    """The fewest moves to a table within any level."""
    # A house has no more pieces than there are tickets, so by this level none has too many.
    return Trial(town, table, zone=zone, level=len(table)).many


def first_trials(town, table, zone, most):
    """The trial of the least level that is enough for so many moves, and the one ahead of it, or None."""
    before = None
    trial = Trial(town, table, zone=zone, level=0)
    while not trial.is_done(most):
        before = trial
        trial = Trial(town, table, zone=zone, level=before.level + 1)
    return (trial, before)


def settle_within(town, table, zone, level, moves):
    """The settling by a level that is handed in, and with at most so many moves, where these are, too."""
    most = pieces_in(table)
    trial = Trial(town, table, zone=zone, level=level)
    if trial.many is None:
        least, _ = first_trials(town, table, zone, most)
        raise NoLevel(level, least.level)
    if moves is not None and trial.many > moves:
        raise NoMoves(moves, trial.many)
    return Settling(trial, most, None)


def settle(town, table, *, zone, level=None, moves=None):
    """The settling of a table by the level, or else by the least one, with at most so many moves."""
    check_room(town, table, zone)
    if level is not None:
        return settle_within(town, table, zone, level, moves)
    most = pieces_in(table)
    if moves is not None:
        least = fewest_moves(town, table, zone)
        if least > moves:
            raise NoMoves(moves, least)
        most = moves
    trial, before = first_trials(town, table, zone, most)
    return Settling(trial, most, before)


def stairs(town, table, *, zone):
    """Tuples (level, moves), from the least level up to the first one that has the fewest moves of all."""
    check_room(town, table, zone)
    least = fewest_moves(town, table, zone)
    trial, _ = first_trials(town, table, zone, pieces_in(table))
    out = [(trial.level, trial.many)]
    while trial.many > least:
        trial = Trial(town, table, zone=zone, level=trial.level + 1)
        out.append((trial.level, trial.many))
    return out
