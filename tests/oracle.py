"""What a right book tells, found by going through all its rows anew for each question, and books to ask it of."""

import random

from samples import PLAIN, kinds

NAMES = ["a", "bb", "ccc", "abcdefgh"]
HOUSES = ["ha", "hb", "hc", "hd", "he", "hf", "hg", "hh", "hi", "hj", "hk", "hl"]
SOME_SHAPES = [PLAIN, (1, 1, 0), (1, 2, 1), (2, 1, 2), (4, 1, 2)]


def row(word, *members):
    """The row with this word and these members."""
    return (2 + len(members), word, *members)


def begin(ticket, name, *, length=3, shape=(1, 1, 1), homes=("ha", "hb", "hc")):
    """A begin row."""
    return row("begin", ticket, name, length, *shape, *homes)


def of(rows, *words):
    """The rows with these words."""
    return [one for one in rows if one[1] in words]


def begun(rows, ticket):
    """The begin row of a ticket."""
    return [one for one in of(rows, "begin") if one[2] == ticket][0]


def hour_of(one):
    """The hour of a root or drop row."""
    return one[3]


def name_of(rows, one):
    """The name of a root or drop row."""
    return one[2] if one[1] == "drop" else begun(rows, one[2])[3]


def behind_ready(rows):
    """The rows behind the ready row."""
    return rows[[one[1] for one in rows].index("ready") + 1:]


def next_ticket(rows):
    return rows[0][3] + len(of(behind_ready(rows), "begin"))


def next_hour(rows):
    return rows[0][4] + len(of(behind_ready(rows), "root", "drop"))


def floor(rows):
    return ([rows[0][5]] + [one[2] for one in of(rows, "floor")])[-1]


def hours_told(rows):
    return list(range(floor(rows), next_hour(rows)))


def ticket_at(rows, name, hour):
    """The ticket of the name's object at an hour, or None."""
    past = [one for one in of(rows, "root", "drop") if name_of(rows, one) == name and hour_of(one) <= hour]
    last = max(past, key=hour_of, default=None)
    return last[2] if last is not None and last[1] == "root" else None


def all_names(rows):
    return sorted({name_of(rows, one) for one in of(rows, "root", "drop")})


def kept(rows):
    """The tickets that are some name's object at some hour that is told."""
    seen = {ticket_at(rows, name, hour) for name in all_names(rows) for hour in hours_told(rows)}
    return sorted(seen - {None})


def unsealed(rows):
    sealed = {one[2] for one in of(rows, "root")}
    return sorted({one[2] for one in of(rows, "begin")} - sealed)


def hours_of(rows, name):
    """What [51] tells of a name."""
    out = [(one[3], one[2]) for one in of(rows, "root") if one[2] in kept(rows) and name_of(rows, one) == name]
    out += [(one[3], None) for one in of(rows, "drop") if one[2] == name and one[3] > floor(rows)]
    return sorted(out, key=lambda pair: pair[0])


def about(rows, ticket):
    """What [51] tells of a ticket."""
    _, _, _, name, length, *rest = begun(rows, ticket)
    homes = rest[3:]
    for one in of(rows, "moved"):
        if one[2] == ticket:
            homes[one[3]] = one[4]
    return (name, length, tuple(rest[:3]), homes)


def drawn_begin(draw, ticket):
    """A begin row of a drawn name, shape and homes."""
    shape = draw.choice(SOME_SHAPES)
    homes = draw.sample(HOUSES, len(kinds(shape)))
    return begin(ticket, draw.choice(NAMES), length=draw.randrange(61), shape=shape, homes=homes)


def drawn_ahead(draw):
    """The rows of a drawn book up to its ready row: tickets and hours have holes."""
    ticket = hour = 0
    rows = []
    for _ in range(draw.randrange(8)):
        waiting = unsealed(rows)
        hour += draw.randrange(1, 4)
        held = [name for name in all_names(rows) if ticket_at(rows, name, hour - 1) is not None]
        kind = draw.randrange(4)
        if kind == 0 and held:
            rows.append(row("drop", draw.choice(held), hour))
        elif kind == 1 and waiting:
            rows.append(row("root", draw.choice(waiting), hour))
        else:
            ticket += draw.randrange(1, 4)
            rows.append(drawn_begin(draw, ticket))
    age = draw.randrange(1, 50)
    after = hour + draw.randrange(1, 4)
    first = row("book", age, ticket + draw.randrange(1, 4), after, draw.randrange(after))
    return [first] + rows + [row("ready", age)]


def drawn_row(draw, rows):
    """A row that fits behind a ready book's rows."""
    waiting, hour = unsealed(rows), next_hour(rows)
    held = [name for name in all_names(rows) if ticket_at(rows, name, hour - 1) is not None]
    kind = draw.randrange(8)
    if kind < 3 and waiting:
        return row("root", draw.choice(waiting), hour)
    if kind == 3 and held:
        return row("drop", draw.choice(held), hour)
    if kind == 4 and floor(rows) + 1 < hour and draw.randrange(3) == 0:
        return row("floor", draw.randrange(floor(rows) + 1, hour))
    if kind == 5 and kept(rows):
        ticket = draw.choice(kept(rows))
        homes = about(rows, ticket)[3]
        house = draw.choice([house for house in HOUSES if house not in homes])
        return row("moved", ticket, draw.randrange(len(homes)), house)
    return drawn_begin(draw, next_ticket(rows))


def drawn_book(seed, *, many=25):
    """The rows of a right book, the same for the same seed."""
    draw = random.Random(seed)
    rows = drawn_ahead(draw)
    for _ in range(draw.randrange(many)):
        rows.append(drawn_row(draw, rows))
    return rows
