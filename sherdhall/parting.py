"""Parting: moves parted into rounds so that none has an end in common with another one of its round."""


def ends_of(moves, many):
    """For each move its two ends: a house has several ends on a side where one would have more than many moves."""
    seen = {}
    out = []
    for number, (_, _, source, house) in enumerate(moves):
        # No house is an end of its own each time, as it binds nothing.
        gives = ("gives", source, number if source is None else seen.get(("gives", source), 0) // many)
        gets = ("gets", house, seen.get(("gets", house), 0) // many)
        for side, name, _ in (gives, gets):
            seen[(side, name)] = seen.get((side, name), 0) + 1
        out.append((gives, gets))
    return out


class Parting:
    """Things by their numbers, each with two ends of unlike sides, and rounds, as many as an end has things at most."""

    def __init__(self, ends, many):
        self.ends = ends
        self.many = many
        # By an end and a round, the thing that has this end in this round.
        self.taken = {}
        for number in range(len(ends)):
            self._add(number)

    def numbers(self, at):
        """The numbers of the things in a round, rising."""
        return [number for number, (gives, _) in enumerate(self.ends) if self.taken.get((gives, at)) == number]

    def _add(self, number):
        """Let one more thing stand in some round."""
        gives, gets = self.ends[number]
        here, there = self._free_round(gives), self._free_round(gets)
        self._exchange(gets, here, there)
        self._take(number, here)

    def _free_round(self, end):
        """The first round in which nothing has this end: there is one, as an end has at most as many things."""
        return [at for at in range(self.many) if (end, at) not in self.taken][0]

    def _exchange(self, end, here, there):
        """Let the things that hang on this end by the two rounds change these, so that the end is free here."""
        # From this side the row of them goes on by here and comes back by there, so it meets no end that is free here.
        hanging = []
        at = here
        while (end, at) in self.taken:
            number = self.taken[(end, at)]
            hanging.append((number, at))
            gives, gets = self.ends[number]
            end = gives if end == gets else gets
            at = here + there - at
        for number, old in hanging:
            for one in self.ends[number]:
                del self.taken[(one, old)]
        for number, old in hanging:
            self._take(number, here + there - old)

    def _take(self, number, at):
        for end in self.ends[number]:
            self.taken[(end, at)] = number
