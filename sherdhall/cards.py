"""Cards: pieces as they lie in drawers, with two sums by which a spoilt one is known."""

from sherdhall.field import is_rest, sum_of_products

# The members besides the cells: how many, ticket, place, and the two sums.
BESIDES = 5


def sums_of(cells):
    """The two sums of a card with these cells."""
    many = len(cells)
    return (sum_of_products([1] * many, cells), sum_of_products(list(range(1, many + 1)), cells))


def made_card(ticket, place, cells):
    """The card of a ticket's place with these cells."""
    first, second = sums_of(cells)
    return (BESIDES + len(cells), ticket, place, *cells, first, second)


def cells_of(card):
    """The cells of a whole card."""
    return list(card[3:-2])


def looked(card, ticket, place):
    """What a card is that lies under the key (ticket, place): "torn", "strange", "spoilt" or "whole"."""
    if len(card) < BESIDES or len(card) != card[0]:
        return "torn"
    if card[1:3] != (ticket, place):
        return "strange"
    cells = cells_of(card)
    if not all([is_rest(cell) for cell in cells]) or card[-2:] != sums_of(cells):
        return "spoilt"
    return "whole"
