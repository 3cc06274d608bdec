"""What a store has in hand, for its own deeds and those of care."""

from sherdhall.book import made_row, right_book
from sherdhall.cards import made_card
from sherdhall.errors import Dark, NoHour, NoObject, NoTicket, Stale
from sherdhall.field import is_between
from sherdhall.laying import laid
from sherdhall.names import check_name
from sherdhall.table import replay


class Held:
    """A ground, the table of its right book, the pieces of the tickets that are open, and the deeds asked so far."""

    def __init__(self, ground):
        if ground.is_dark():
            raise Dark(0)
        books = [ground.book_rows(0), ground.book_rows(1)]
        self.ground = ground
        self.which = right_book(books)
        self.book = replay(books[self.which])
        ground.cut_off(self.which)
        self.turn = ground.next_turn()
        self.pieces = {}
        self.asked = []
        self.busy = False

    def check(self):
        """Refuse where the ground has another turn, or is dark."""
        turn = self.ground.newest_turn()
        if turn != self.turn:
            raise Stale(turn)
        if self.ground.is_dark():
            raise Dark(0)

    def check_begun(self, ticket):
        """Refuse a ticket that is not open."""
        if ticket not in self.pieces:
            raise NoTicket(ticket)

    def check_kept(self, ticket):
        """Refuse a ticket that is not kept."""
        if ticket not in self.book.kept_tickets():
            raise NoTicket(ticket)

    def check_hour(self, hour):
        """Refuse an hour that is not told."""
        if not is_between(hour, self.book.least_hour(), self.last_hour()):
            raise NoHour(hour)

    def last_hour(self):
        """The last hour that is told."""
        return self.book.next_hour() - 1

    def hour_at(self, at):
        """The hour that is asked for: the last one where none is."""
        if at is None:
            return self.last_hour()
        self.check_hour(at)
        return at

    def object_at(self, name, at):
        """The ticket of a name's object at the hour that is asked for."""
        check_name(name)
        ticket = self.book.ticket_at(name, self.hour_at(at))
        if ticket is None:
            raise NoObject(name)
        return ticket

    def write(self, row):
        """Strike a row into the right book."""
        self.ground.strike(self.which, row)
        self.book.learn(row)

    def start(self, name, row, homes, shape):
        """Begin a row; told is its ticket."""
        ticket = self.book.next_ticket()
        self.write(made_row("begin", (ticket, name, len(row), *shape, *homes)))
        self.pieces[ticket] = laid(row, shape=shape)
        return ticket

    def lay_piece(self, ticket, place):
        """Lay the card of an open ticket's place into its home."""
        homes = self.book.about_ticket(ticket)[3]
        self.ground.lay_card(homes[place], made_card(ticket, place, self.pieces[ticket][place]))

    def finish(self, ticket):
        """Seal an open ticket; told is the hour."""
        hour = self.book.next_hour()
        self.write(made_row("root", (ticket, hour)))
        del self.pieces[ticket]
        return hour

    def turn_over(self, rows):
        """Write all rows of a book into the other one, which is the right one from then on."""
        other = 1 - self.which
        self.ground.empty(other)
        for row in rows:
            self.ground.strike(other, row)
        self.which = other
        self.book = replay(rows)
