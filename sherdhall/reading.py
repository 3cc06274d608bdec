"""Reading: which cards of a ticket can be read, and what is found of those that can not."""

from sherdhall.cards import cells_of, looked


def is_reached(ground, house):
    """Whether the ground has such a house, and it is up."""
    return house in ground.houses() and ground.is_up(house)


def finding(ground, ticket, place, home):
    """What is found of the card of a ticket's place: "down", "gone", "torn", "strange", "spoilt" or "whole"."""
    if not is_reached(ground, home):
        return "down"
    card = ground.card(home, (ticket, place))
    return "gone" if card is None else looked(card, ticket, place)


def readable(ground, ticket, homes):
    """The places, rising, whose card can be read."""
    return [place for place, home in enumerate(homes) if finding(ground, ticket, place, home) == "whole"]


def pieces_read(ground, ticket, homes):
    """The pieces of the places whose card can be read: a dict by places, rising."""
    places = readable(ground, ticket, homes)
    return {place: cells_of(ground.card(homes[place], (ticket, place))) for place in places}
