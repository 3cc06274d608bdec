"""What the tests of stores need: rows, drawn deeds and faults, and what a store should tell, found in other ways."""

import random

from sherdhall.cards import looked
from sherdhall.care import fold, forget, mend, sweep
from sherdhall.errors import Dark, NoCard, SherdError
from sherdhall.ground import Ground
from sherdhall.store import Store
import oracle
from oracle import HOUSES
from samples import PLAIN, data_of, filling_of, kinds, told_places

TEN = HOUSES[:10]
SMALL_SHAPE = (1, 2, 1)
FOUR = HOUSES[:4]
NAMES = ["a", "bb", "ccc"]
WORDS = ["begin", "lay", "seal", "give_up", "put", "drop", "mend", "sweep", "forget", "fold"]


def made(*, houses=HOUSES, fuse=None):
    """A ground and a store on it."""
    ground = Ground(list(houses), fuse=fuse)
    return ground, Store(ground)


def pieces_of(row, shape):
    """The cells of each place, by the words of [16]."""
    data = data_of(shape)
    cells = -(-len(row) // len(data))
    full = row + [0] * (cells * len(data) - len(row))
    fillings = [filling_of(full[at * len(data):(at + 1) * len(data)], shape) for at in range(cells)]
    return [[filling[place] for filling in fillings] for place in range(len(kinds(shape)))]


def card_of(ticket, place, row, shape):
    """The card of a ticket's place, by the words of [30]."""
    cells = pieces_of(row, shape)[place]
    return (5 + len(cells), ticket, place, *cells, sum(cells) % 97,
            sum(at * cell for at, cell in enumerate(cells, 1)) % 97)


def why_not(ground, ticket, place, home):
    """Why a card can not be read; None where it can."""
    if home not in ground.houses() or not ground.is_up(home):
        return "down"
    card = ground.card(home, (ticket, place))
    if card is None:
        return "gone"
    look = looked(card, ticket, place)
    return None if look == "whole" else look


def places_read(ground, ticket, homes):
    """The places whose card can be read."""
    return [place for place, home in enumerate(homes) if why_not(ground, ticket, place, home) is None]


def needed_of(length, shape):
    """The data places that hold a number of a row so long."""
    return data_of(shape)[:length]


def can_be_read(ground, ticket, about):
    """Whether the row of a ticket is told by what can be read."""
    _, length, shape, homes = about
    told = told_places(tuple(places_read(ground, ticket, homes)), shape)
    return all(place in told for place in needed_of(length, shape))


def right_rows(ground):
    """The rows of the ground's right book, without a torn last one."""
    best = None
    for which in (0, 1):
        rows = ground.book_rows(which)
        if rows and rows[0][:2] == (6, "book") and len(rows[0]) == 6 and (3, "ready", rows[0][2]) in rows:
            if best is None or rows[0][2] > best[0][2]:
                best = rows
    return best[:-1] if best[-1][0] > len(best[-1]) else best


def readable_objects(ground):
    """The tickets kept by the right book whose row can be read."""
    rows = right_rows(ground)
    return {ticket for ticket in oracle.kept(rows) if can_be_read(ground, ticket, oracle.about(rows, ticket))}


def told_of(store):
    """All that a store tells but by its reads."""
    names = sorted({store.about(ticket)[0] for ticket in store.kept()} | set(NAMES))
    return {
        "kept": {ticket: store.about(ticket) for ticket in store.kept()},
        "hours": {name: store.hours(name) for name in names},
        "names": store.names(),
        "len": len(store),
    }


def reads_of(store, hours):
    """What is read of all names at these hours: the row, or what the read was refused with."""
    out = {}
    for name in NAMES:
        for hour in hours:
            try:
                out[(name, hour)] = store.read(name, at=hour)
            except SherdError as refusal:
                out[(name, hour)] = (type(refusal).__name__, sorted(vars(refusal).items()))
    return out


def drawn_row(draw):
    """A row of none to twenty numbers, or seldom sixty."""
    many = draw.choice([0, 1, 2, 5, 6, 7, 12, 20, 60])
    return [draw.randrange(97) for _ in range(many)]


def drawn_fault(draw, ground):
    """Let something happen to a house."""
    name, other = draw.sample(ground.houses(), 2)
    kind = draw.randrange(9)
    try:
        if kind == 0:
            ground.lose(name)
        elif kind == 1:
            ground.down(name)
        elif kind in (2, 3, 4):
            ground.up(name)
        elif ground.drawers(name):
            key = draw.choice(ground.drawers(name))
            if kind == 5:
                ground.take(name, key)
            elif kind == 6:
                ground.change(name, key, at=draw.randrange(3), by=draw.randrange(1, 97))
            elif ground.drawers(other):
                ground.exchange(name, key, other, draw.choice(ground.drawers(other)))
    except NoCard:
        pass


def drawn_deed(draw, store):
    """The word of a deed, what it is handed, and the deed as a function; homes of a put are up where enough are."""
    ground = store.held.ground
    name = draw.choice(NAMES)
    kind = draw.randrange(20)
    if kind < 7:
        shape = draw.choice([PLAIN, PLAIN, SMALL_SHAPE, (2, 1, 1), (1, 4, 2), (1, 1, 0)])
        up = [house for house in ground.houses() if ground.is_up(house)]
        many = len(kinds(shape))
        homes = draw.sample(up if len(up) >= many else ground.houses(), many)
        row = drawn_row(draw)
        return "put", (name, row), lambda: store.put(name, list(row), homes=list(homes), shape=shape)
    if kind == 7:
        return "drop", (name,), lambda: store.drop(name)
    if kind < 14 and store.kept():
        ticket = draw.choice(store.kept())
        place = draw.randrange(len(store.about(ticket)[3]))
        into = draw.choice(ground.houses() + [None] * 5)
        return "mend", (ticket, place, into), lambda: mend(store, ticket, place, into=into)
    if kind < 16:
        return "sweep", (), lambda: sweep(store)
    if kind == 16:
        hour = draw.randrange(draw.choice([1, 4, 30]))
        return "forget", (hour,), lambda: forget(store, hour)
    if kind < 19:
        return "fold", (), lambda: fold(store)
    return "drop", (name,), lambda: store.drop(name)


def written_by(ground, deed):
    """How many members a deed writes, done on the ground, which it changes."""
    before = ground.members_written()
    deed(ground)
    return ground.members_written() - before


def by_every_fuse(ground, deed):
    """Do a deed, of a new store on a twin of the ground, with every fuse: tuples of fuse, cost, store, twin, answer.

    The answer is what it told, or the Dark that it was refused with.
    """
    twin = ground.twin()
    cost = written_by(twin, lambda one: deed(Store(one)))
    for fuse in [*range(cost + 2), None]:
        twin = ground.twin()
        store = Store(twin)
        twin.set_fuse(fuse)
        try:
            answer = deed(store)
        except Dark as refusal:
            answer = refusal
        yield fuse, cost, store, twin, answer


def seeded(seed):
    return random.Random(seed)
