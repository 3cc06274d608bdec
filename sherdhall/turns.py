"""Turns: how deep a desk is in its orders, and the trail of when each was begun and over."""


class Log:
    """How many turns are on, one within the other, and the trail of all turns."""

    def __init__(self):
        self.deep = 0
        self.rows = []


class Turn:
    """One order, or one list of them: it is told in the trail when it begins and when it is over."""

    def __init__(self, log):
        self.log = log
        self.rows = log.rows
        self.outer = log.deep
        self.inner = log.deep + 1

    def __enter__(self):
        log = self.log
        log.deep = self.inner
        self.rows.append(("in", self.inner))
        return self

    def __exit__(self, kind, value, trace):
        self.rows.append(("out", self.inner))
        log = self.log
        log.deep = self.outer
