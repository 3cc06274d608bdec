"""Texts: how towns, tables and moves are written, and towns and tables read back."""

from sherdhall.errors import NoText
from sherdhall.names import is_name
from sherdhall.town import HEAVIEST, Town
from sherdhall.words import is_number

WEIGHT_FIGURES = 4
TICKET_FIGURES = 9
MOST_HOMES = 10


def show_town(town):
    """The writing of a town."""
    return " ".join([f"{name}@{zone}*{weight}" for name, zone, weight in town.listed()])


def show_homes(ticket, homes):
    """The word of a ticket and its houses."""
    houses = ",".join(homes)
    return f"{ticket}:{houses}"


def show_table(table):
    """The writing of a table."""
    return " ".join([show_homes(ticket, table[ticket]) for ticket in sorted(table)])


def show_move(move):
    """The writing of a move."""
    ticket, place, source, house = move
    start = "-" if source is None else source
    return f"{ticket}/{place}:{start}>{house}"


def words_of(text):
    """The words of a text, as single blanks part them."""
    if not isinstance(text, str):
        raise NoText(None)
    return [] if text == "" else text.split(" ")


def house_of(word):
    """The row of a town that a word tells, or None."""
    name, _, rest = word.partition("@")
    zone, _, weight = rest.partition("*")
    if not is_name(name) or not is_name(zone) or not is_number(weight, WEIGHT_FIGURES) or int(weight) > HEAVIEST:
        return None
    return (name, zone, int(weight))


def homes_of(word):
    """The tuple of a ticket and its houses that a word tells, or None."""
    ticket, _, rest = word.partition(":")
    homes = rest.split(",")
    if not is_number(ticket, TICKET_FIGURES) or not all([is_name(home) for home in homes]):
        return None
    if len(homes) > MOST_HOMES or len(set(homes)) != len(homes):
        return None
    return (int(ticket), homes)


def rows_of(text, told_by):
    """What each word tells by a function of words: tuples, that rise by their first members."""
    rows = []
    for at, word in enumerate(words_of(text)):
        row = told_by(word)
        if row is None or len(rows) > 0 and row[0] <= rows[-1][0]:
            raise NoText(at)
        rows.append(row)
    return rows


def read_town(text):
    """The town that a text tells."""
    return Town(rows_of(text, house_of))


def read_table(text):
    """The table that a text tells."""
    return {ticket: homes for ticket, homes in rows_of(text, homes_of)}
