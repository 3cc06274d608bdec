"""Care: pieces mended and moved, drawers swept, hours forgotten, and the book folded."""

from sherdhall.book import made_row
from sherdhall.cards import made_card
from sherdhall.deeds import Deed
from sherdhall.errors import Down, Hidden, Lost, NoHouse, Taken
from sherdhall.least import least_recipe
from sherdhall.names import check_name
from sherdhall.reading import is_reached, pieces_read, unreadable
from sherdhall.shapes import check_place


def mend(store, ticket, place, *, into=None):
    """Make the piece of a kept ticket's place anew, at home or into another house; told are the places read."""
    held = store.held
    with Deed(held, "mend"):
        held.check()
        held.check_kept(ticket)
        _, _, shape, homes = held.book.about_ticket(ticket)
        check_place(place, shape)
        if into is not None:
            check_into(held.ground, into, homes[place], homes)
        house = homes[place] if into is None else into
        if not is_reached(held.ground, house):
            raise Down(house)
        return mend_into(held, ticket, place, house)


def check_into(ground, into, home, homes):
    """Refuse a house that can not become the home of a piece, where homes are those of the whole ticket."""
    check_name(into)
    if into not in ground.houses():
        raise NoHouse(into)
    if into != home and into in homes:
        raise Taken(into)


def mend_into(held, ticket, place, house):
    """Make the piece anew into a house that can take it; told are the places read."""
    name, _, shape, homes = held.book.about_ticket(ticket)
    pieces = pieces_read(held.ground, ticket, homes)
    try:
        least = least_recipe(list(pieces), place, shape=shape)
    except Hidden:
        raise Lost(name, ticket, unreadable(held.ground, ticket, homes)) from None
    home = homes[place]
    if house != home or place not in pieces:
        held.ground.lay_card(house, made_card(ticket, place, least.made(pieces)))
    if house != home:
        held.write(made_row("moved", (ticket, place, house)))
    return least.reads


def drawers_in_use(held):
    """The drawers of kept and open tickets in their homes: a dict by house and key."""
    out = {}
    for ticket in held.book.kept_tickets() + sorted(held.pieces):
        for place, home in enumerate(held.book.about_ticket(ticket)[3]):
            out[(home, (ticket, place))] = True
    return out


def sweep(store):
    """Pull all cards that are of no use from the houses that are up; told is how many."""
    held = store.held
    ground = held.ground
    with Deed(held, "sweep"):
        held.check()
        used = drawers_in_use(held)
        drawers = [(name, key) for name in ground.houses() if ground.is_up(name) for key in ground.drawers(name)]
        useless = [drawer for drawer in drawers if drawer not in used]
        for name, key in useless:
            ground.pull(name, key)
        return len(useless)


def forget(store, hour):
    """Let the hours ahead of one be told no more; told are the tickets that are kept no more."""
    held = store.held
    with Deed(held, "forget"):
        held.check()
        held.check_hour(hour)
        before = held.book.kept_tickets()
        if hour > held.book.least_hour():
            held.write(made_row("floor", (hour,)))
        kept = held.book.kept_tickets()
        return [ticket for ticket in before if ticket not in kept]


def begin_rows(held):
    """The begin rows of kept and open tickets, by ticket, with the homes of now."""
    out = []
    for ticket in sorted(held.book.kept_tickets() + list(held.pieces)):
        name, length, shape, homes = held.book.about_ticket(ticket)
        out.append(made_row("begin", (ticket, name, length, *shape, *homes)))
    return out


def hour_rows(book):
    """The root rows of kept tickets and the drop rows of hours above the floor, by hour."""
    # No two of them have one hour.
    told = sorted([(hour, name, ticket) for name in book.told_names() for hour, ticket in book.hours_of(name)])
    out = []
    for hour, name, ticket in told:
        out.append(made_row("drop", (name, hour)) if ticket is None else made_row("root", (ticket, hour)))
    return out


def fold(store):
    """Write all that is told into the other book, without what is told no more; told is how many rows it has."""
    held = store.held
    with Deed(held, "fold"):
        held.check()
        book = held.book
        age = book.age() + 1
        first = made_row("book", (age, book.next_ticket(), book.next_hour(), book.least_hour()))
        rows = [first] + begin_rows(held) + hour_rows(book) + [made_row("ready", (age,))]
        held.turn_over(rows)
        return len(rows)
