"""All refusals: each of its own class, which keeps what it was made with."""


class SherdError(ValueError):
    """Any refusal."""


class NoRest(SherdError):
    """A number by which nothing can be parted: its rest by 97 is 0."""

    def __init__(self, number):
        self.number = number


class NoShape(SherdError):
    """A thing that is no shape."""

    def __init__(self, shape):
        self.shape = shape


class NoPlace(SherdError):
    """A thing that is no place of the shape, or a place that lacks what is asked of it."""

    def __init__(self, place):
        self.place = place


class NoRow(SherdError):
    """A thing that is no row: the place of its first wrong member, or None."""

    def __init__(self, at):
        self.at = at


class Hidden(SherdError):
    """A place that is not told by what is left, with a filling that shows it."""

    def __init__(self, place, ghost):
        self.place = place
        self.ghost = ghost


class NoName(SherdError):
    """A text that is no name."""

    def __init__(self, name):
        self.name = name


class Taken(SherdError):
    """A name that stands there already."""

    def __init__(self, name):
        self.name = name


class NoHouse(SherdError):
    """A name that no house has."""

    def __init__(self, name):
        self.name = name


class Down(SherdError):
    """A house that is down."""

    def __init__(self, name):
        self.name = name


class NoCard(SherdError):
    """A drawer of a house in which no such card, or no such cell, lies."""

    def __init__(self, house, key):
        self.house = house
        self.key = key


class Dark(SherdError):
    """A write to a dark ground, with how many members were put down."""

    def __init__(self, written):
        self.written = written


class NoBook(SherdError):
    """A book that is not right, with the number of its first row that does not fit."""

    def __init__(self, at):
        self.at = at


class Stale(SherdError):
    """A store that is not the newest of its ground, with the ground's turn."""

    def __init__(self, turn):
        self.turn = turn


class NoObject(SherdError):
    """A name that has no object at the hour."""

    def __init__(self, name):
        self.name = name


class NoHour(SherdError):
    """An hour that is not told."""

    def __init__(self, hour):
        self.hour = hour


class NoTicket(SherdError):
    """A ticket that is not there for what is asked of it."""

    def __init__(self, ticket):
        self.ticket = ticket


class NoHomes(SherdError):
    """A thing that is no list of homes for the shape."""

    def __init__(self, homes):
        self.homes = homes


class NotAll(SherdError):
    """A ticket that can not be sealed yet, with the places that lack."""

    def __init__(self, ticket, lacking):
        self.ticket = ticket
        self.lacking = lacking


class Lost(SherdError):
    """A row or piece that is not told by the cards that can be read."""

    def __init__(self, name, ticket, lacking):
        self.name = name
        self.ticket = ticket
        self.lacking = lacking


class NoWeight(SherdError):
    """A thing that is no weight."""

    def __init__(self, weight):
        self.weight = weight


class NoRoom(SherdError):
    """A town that has less room than is needed."""

    def __init__(self, name, need, have):
        self.name = name
        self.need = need
        self.have = have


class NoLevel(SherdError):
    """A level that no table is within, with the least one that any is within."""

    def __init__(self, level, least):
        self.level = level
        self.least = least


class NoMoves(SherdError):
    """Fewer moves than are needed, with the fewest that do."""

    def __init__(self, most, least):
        self.most = most
        self.least = least


class NoText(SherdError):
    """A text that can not be read, with the number of its first wrong word."""

    def __init__(self, at):
        self.at = at


class NoOrder(SherdError):
    """A thing that is no order."""

    def __init__(self, row):
        self.row = row


class NotEmpty(SherdError):
    """A house that has pieces still, with how many."""

    def __init__(self, name, many):
        self.name = name
        self.many = many


class Stopped(SherdError):
    """An order out of several that was refused, with its number."""

    def __init__(self, number, row):
        self.number = number
        self.row = row
