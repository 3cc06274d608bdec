"""Scrubbing: all pieces looked through."""

from sherdhall.reading import finding


def scrub(store):
    """The places of kept tickets whose card can not be read: tuples (ticket, place, house, why)."""
    held = store.held
    held.check()
    out = []
    for ticket in held.book.kept_tickets():
        homes = held.book.about_ticket(ticket)[3]
        for place, home in enumerate(homes):
            why = finding(held.ground, ticket, place, home)
            if why != "whole":
                out.append((ticket, place, home, why))
    return out
