"""Deeds: what is told of a store while one is done, and behind it."""


class Deed:
    """A deed of a store: its word is told when it begins and when it is over, and the store is busy between."""

    def __init__(self, held, word):
        self.held = held
        self.asked = held.asked
        self.word = word

    def __enter__(self):
        self.asked.append(("in", self.word))
        self.held.busy = True
        return self

    def __exit__(self, kind, value, trace):
        self.asked.append(("out", self.word))
        held = self.held
        held.busy = False
