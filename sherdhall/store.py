"""The store: rows begun, laid and sealed under names, and read by what is left of their pieces."""

from sherdhall.book import made_row
from sherdhall.deeds import Deed
from sherdhall.errors import Down, NoHomes, NoShape, NotAll
from sherdhall.held import Held
from sherdhall.laying import check_row
from sherdhall.names import check_name, is_name
from sherdhall.reading import ghost_read, row_read, unreadable
from sherdhall.shapes import PLAIN, check_place, count

# The most places of a shape that a store takes.
WIDEST = 10


def are_homes(thing, houses, many):
    """Whether something, of any kind, is a list of so many unlike ones of the houses."""
    if not isinstance(thing, list) or len(thing) != many:
        return False
    if not all([is_name(home) and home in houses for home in thing]):
        return False
    return len(set(thing)) == many


def check_narrow(shape):
    """Refuse what is no shape, and one of more places than a store takes."""
    if count(shape=shape) > WIDEST:
        raise NoShape(shape)


def check_put(name, row, homes, shape, houses):
    """Refuse what can not be begun."""
    check_name(name)
    check_row(row)
    check_narrow(shape)
    if not are_homes(homes, houses, count(shape=shape)):
        raise NoHomes(list(homes) if isinstance(homes, list) else homes)


class Store:
    """Rows in pieces over the houses of a ground, told by its right book."""

    def __init__(self, ground):
        self.held = Held(ground)

    def begin(self, name, row, *, homes, shape=PLAIN):
        """Begin a row; told is its ticket, which is open from then on."""
        held = self.held
        with Deed(held, "begin"):
            held.check()
            check_put(name, row, homes, shape, held.ground.houses())
            return held.start(name, row, homes, shape)

    def lay(self, ticket, place):
        """Lay the card of an open ticket's place into its home."""
        held = self.held
        with Deed(held, "lay"):
            held.check()
            held.check_begun(ticket)
            check_place(place, held.book.about_ticket(ticket)[2])
            held.lay_piece(ticket, place)

    def seal(self, ticket):
        """Seal an open ticket of which all cards can be read; told is the hour."""
        held = self.held
        with Deed(held, "seal"):
            held.check()
            held.check_begun(ticket)
            lacking = unreadable(held.ground, ticket, held.book.about_ticket(ticket)[3])
            if len(lacking) > 0:
                raise NotAll(ticket, lacking)
            return held.finish(ticket)

    def give_up(self, ticket):
        """Let an open ticket be open no more."""
        held = self.held
        with Deed(held, "give_up"):
            held.check()
            held.check_begun(ticket)
            del held.pieces[ticket]

    def put(self, name, row, *, homes, shape=PLAIN):
        """Begin a row, lay all its cards and seal it; told is the hour."""
        held = self.held
        with Deed(held, "put"):
            held.check()
            check_put(name, row, homes, shape, held.ground.houses())
            for home in homes:
                if not held.ground.is_up(home):
                    raise Down(home)
            ticket = held.start(name, row, homes, shape)
            for place in range(count(shape=shape)):
                held.lay_piece(ticket, place)
            return held.finish(ticket)

    def drop(self, name):
        """Let a name have no object any more; told is the hour."""
        held = self.held
        with Deed(held, "drop"):
            held.check()
            held.object_at(name, None)
            hour = held.book.next_hour()
            held.write(made_row("drop", (name, hour)))
            return hour

    def read(self, name, *, at=None):
        """The row that was sealed under a name, as it was at an hour."""
        row, _ = self.read_by(name, at=at)
        return row

    def read_by(self, name, *, at=None):
        """The row as read tells it, and the places by which it was told."""
        held = self.held
        held.check()
        ticket = held.object_at(name, at)
        return row_read(held.ground, ticket, held.book.about_ticket(ticket))

    def why_lost(self, name, *, at=None):
        """A place of the row that is not told, and a ghost that shows it; None where the row is told."""
        held = self.held
        held.check()
        ticket = held.object_at(name, at)
        return ghost_read(held.ground, ticket, held.book.about_ticket(ticket))

    def hours(self, name):
        """The hours of a name's kept tickets, with these, and of its drops, with None, rising."""
        self.held.check()
        check_name(name)
        return self.held.book.hours_of(name)

    def names(self, *, at=None):
        """The names that have an object at an hour, sorted."""
        self.held.check()
        return self.held.book.names_at(self.held.hour_at(at))

    def kept(self):
        """The kept tickets, rising."""
        self.held.check()
        return self.held.book.kept_tickets()

    def open_tickets(self):
        """The open tickets, rising."""
        self.held.check()
        return sorted(self.held.pieces)

    def about(self, ticket):
        """The name, length, shape and homes of a kept or open ticket."""
        held = self.held
        held.check()
        if ticket not in held.pieces:
            held.check_kept(ticket)
        return held.book.about_ticket(ticket)

    def is_busy(self):
        """Whether a deed is being done."""
        return self.held.busy

    def entries(self):
        """The deeds asked so far, each when it began and when it was over."""
        return list(self.held.asked)

    def __eq__(self, other):
        return isinstance(other, Store) and self.held.book.summary() == other.held.book.summary()

    def __len__(self):
        return len(self.held.book.names_at(self.held.last_hour()))

    def __repr__(self):
        return f"Store({len(self)})"
