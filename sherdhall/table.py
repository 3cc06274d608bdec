"""The table: what a right book tells of tickets, hours and names."""

from sherdhall.book import is_of, is_row, is_torn
from sherdhall.errors import NoBook, NoTicket
from sherdhall.fitting import fits


class Table:
    """What the rows of a book tell, as far as they have been learned."""

    def __init__(self, age, ticket, hour, floor):
        self._age = age
        self._ticket = ticket
        self._hour = hour
        self._floor = floor
        self._ready = False
        # The last ones of the rows ahead of the ready row.
        self._last_ticket = 0
        self._last_hour = 0
        # By tickets: name, length and shape; homes; which were sealed.
        self._begun = {}
        self._homes = {}
        self._sealed = {}
        # By names: tuples of an hour and the ticket that was sealed then, or None of a drop.
        self._pasts = {}

    def next_ticket(self):
        """The ticket that is begun next."""
        return self._ticket

    def next_hour(self):
        """The hour of the next seal or drop."""
        return self._hour

    def least_hour(self):
        """The floor: the first hour that is told."""
        return self._floor

    def age(self):
        """The age of the book."""
        return self._age

    def is_ready(self):
        """Whether the ready row has come."""
        return self._ready

    def may_begin(self, ticket):
        """Whether a begin row of this ticket may come next."""
        if self._ready:
            return ticket == self._ticket
        return self._last_ticket < ticket < self._ticket

    def may_come(self, hour):
        """Whether a root or drop row of this hour may come next."""
        if self._ready:
            return hour == self._hour
        return self._last_hour < hour < self._hour

    def kept_tickets(self):
        """The tickets that are sealed and some name's object at some hour that is told, rising."""
        return sorted([ticket for name in self._pasts for _, ticket in self.hours_of(name) if ticket is not None])

    def unsealed_tickets(self):
        """The tickets that were begun and not sealed, rising."""
        return sorted([ticket for ticket in self._begun if ticket not in self._sealed])

    def ticket_at(self, name, hour):
        """The ticket of the name's object at an hour, or None."""
        found = None
        for begun, ticket in self._pasts.get(name, []):
            if begun <= hour:
                found = ticket
        return found

    def names_at(self, hour):
        """The names that have an object at an hour, sorted."""
        return sorted([name for name in self._pasts if self.ticket_at(name, hour) is not None])

    def hours_of(self, name):
        """The hours of the name's kept tickets, with these, and those of its drops above the floor, with None."""
        past = self._pasts.get(name, [])
        behind = [hour for hour, _ in past[1:]] + [self._hour]
        out = []
        for (hour, ticket), end in zip(past, behind):
            # Above the floor it is seen at its own hour, else only where it lasts till the floor.
            if hour > self._floor or ticket is not None and end > self._floor:
                out.append((hour, ticket))
        return out

    def told_names(self):
        """The names of which hours are told, sorted."""
        return sorted([name for name in self._pasts if len(self.hours_of(name)) > 0])

    def about_ticket(self, ticket):
        """The name, length, shape and homes of a kept or unsealed ticket."""
        if ticket not in self._begun or ticket in self._sealed and ticket not in self.kept_tickets():
            raise NoTicket(ticket)
        name, length, shape = self._begun[ticket]
        return (name, length, shape, list(self._homes[ticket]))

    def summary(self):
        """All that is told of kept tickets, names, and what comes next, but not of unsealed tickets."""
        kept = [(ticket, self.about_ticket(ticket)) for ticket in self.kept_tickets()]
        hours = [(name, self.hours_of(name)) for name in self.told_names()]
        return (kept, hours, self._floor, self._ticket, self._hour)

    def learn(self, row):
        """Let a row, that fits, come behind all that were learned."""
        word = row[1]
        if word == "begin":
            self._learn_begin(row)
        elif word == "root":
            self._sealed[row[2]] = True
            self._learn_hour(self._begun[row[2]][0], row[3], row[2])
        elif word == "drop":
            self._learn_hour(row[2], row[3], None)
        elif word == "moved":
            self._homes[row[2]][row[3]] = row[4]
        elif word == "floor":
            self._floor = row[2]
        elif word == "ready":
            self._ready = True

    def _learn_begin(self, row):
        ticket = row[2]
        self._begun[ticket] = (row[3], row[4], row[5:8])
        self._homes[ticket] = list(row[8:])
        self._last_ticket = ticket
        if self._ready:
            self._ticket = ticket + 1

    def _learn_hour(self, name, hour, ticket):
        self._pasts.setdefault(name, []).append((hour, ticket))
        self._last_hour = hour
        if self._ready:
            self._hour = hour + 1


def first_table(rows):
    """The table of a book's first row."""
    if len(rows) == 0 or not is_of(rows[0], "book"):
        raise NoBook(0)
    _, _, age, ticket, hour, floor = rows[0]
    if floor >= hour:
        raise NoBook(0)
    return Table(age, ticket, hour, floor)


def replay(rows):
    """The table of a right book."""
    whole = rows[:-1] if len(rows) > 0 and is_torn(rows[-1]) else rows
    table = first_table(whole)
    for at in range(1, len(whole)):
        if not is_row(whole[at]) or not fits(table, whole[at]):
            raise NoBook(at)
        table.learn(whole[at])
    if not table.is_ready():
        raise NoBook(len(whole))
    return table
