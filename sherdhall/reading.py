"""Reading: which cards of a ticket can be read, which row they tell, and what shows that they do not."""

from sherdhall.cards import cells_of, looked
from sherdhall.errors import Hidden, Lost
from sherdhall.laying import needed, unlaid
from sherdhall.mending import recipe


def is_reached(ground, house):
    """Whether the ground has such a house, and it is up."""
    return house in ground.houses() and ground.is_up(house)


def finding(ground, ticket, place, home):
    """What is found of the card of a ticket's place: "down", "gone", "torn", "strange", "spoilt" or "whole"."""
    if not is_reached(ground, home):
        return "down"
    card = ground.card(home, (ticket, place))
    return "gone" if card is None else looked(card, ticket, place)


def readable(ground, ticket, homes):
    """The places, rising, whose card can be read."""
    return [place for place, home in enumerate(homes) if finding(ground, ticket, place, home) == "whole"]


def unreadable(ground, ticket, homes):
    """The places, rising, whose card can not be read."""
    read = readable(ground, ticket, homes)
    return [place for place in range(len(homes)) if place not in read]


def pieces_read(ground, ticket, homes):
    """The pieces of the places whose card can be read: a dict by places, rising."""
    places = readable(ground, ticket, homes)
    return {place: cells_of(ground.card(homes[place], (ticket, place))) for place in places}


def recipes_for(left, length, shape):
    """For each data place that holds a number of a row so long, rising, a recipe by places of left."""
    return [recipe(left, place, shape=shape) for place in needed(0, length, shape=shape)]


def row_read(ground, ticket, about):
    """The row of a ticket, of which about tells, and the places, rising, by which it is told."""
    name, length, shape, homes = about
    pieces = pieces_read(ground, ticket, homes)
    try:
        told = recipes_for(list(pieces), length, shape)
    except Hidden:
        raise Lost(name, ticket, unreadable(ground, ticket, homes)) from None
    row = unlaid({one.wanted: one.made(pieces) for one in told}, length, shape=shape)
    return (row, sorted({place for one in told for place in one.reads}))


def ghost_read(ground, ticket, about):
    """A place that hides a ticket's row, and a ghost that shows it; None where the row is told."""
    _, length, shape, homes = about
    try:
        recipes_for(readable(ground, ticket, homes), length, shape)
    except Hidden as hidden:
        return (hidden.place, hidden.ghost)
    return None
