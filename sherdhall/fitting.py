"""Fitting: whether a row may come next in a book, by the table of the rows ahead of it."""

from sherdhall.shapes import is_place


def fits_begin(table, row):
    """Whether a ticket may be begun."""
    return table.may_begin(row[2])


def fits_root(table, row):
    """Whether a ticket may be sealed at an hour."""
    return row[2] in table.unsealed_tickets() and table.may_come(row[3])


def fits_drop(table, row):
    """Whether a name may be dropped at an hour."""
    _, _, name, hour = row
    return table.may_come(hour) and table.ticket_at(name, hour - 1) is not None


def fits_moved(table, row):
    """Whether a piece may have another house for its home."""
    _, _, ticket, place, house = row
    if not table.is_ready() or ticket not in table.kept_tickets():
        return False
    _, _, shape, homes = table.about_ticket(ticket)
    return is_place(place, shape=shape) and house not in homes


def fits_floor(table, row):
    """Whether the floor may rise to an hour."""
    return table.is_ready() and table.least_hour() < row[2] < table.next_hour()


def fits_ready(table, row):
    """Whether the book may become ready."""
    return not table.is_ready() and row[2] == table.age()


FITTING = {
    "begin": fits_begin,
    "root": fits_root,
    "drop": fits_drop,
    "moved": fits_moved,
    "floor": fits_floor,
    "ready": fits_ready,
}


def fits(table, row):
    """Whether a row, of any word, may come behind those that the table was made of."""
    if row[1] not in FITTING:
        return False
    fitting = FITTING[row[1]]
    return fitting(table, row)
