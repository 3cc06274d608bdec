"""What some places tell of the others."""

from sherdhall.field import PRIME, minus, over, times
from sherdhall.fillings import filled


def less(numbers, many, others):
    """The numbers without so many times the others, each by each, as far as both reach."""
    return [(number - many * other) % PRIME for number, other in zip(numbers, others)]


class Span:
    """All that is told by some places of a shape, of which basis has the units.

    The head of a place is its number in each unit: a place is told by others where its head is a sum of theirs, each
    taken so many times. A row is such a sum, and behind it stands, for each place, how many times its head was taken.
    Each row has a lead: where it is 1, and all other rows are 0.
    """

    def __init__(self, places, basis):
        self.basis = basis
        self.leads = []
        self.rows = []
        for place in sorted(set(places)):
            self.take(place)

    def head(self, place):
        """The place's number in each unit."""
        return [unit[place] for unit in self.basis]

    def without_rows(self, line):
        """The line without each row, so many times that 0 is left at its lead."""
        out = line
        for lead, row in zip(self.leads, self.rows):
            out = less(out, out[lead], row)
        return out

    def first_of(self, line):
        """Where the line's head is not 0 first, or None."""
        for at in range(len(self.basis)):
            if line[at] != 0:
                return at
        return None

    def take(self, place):
        """Let the place be one of those that tell."""
        taken = [1 if other == place else 0 for other in range(len(self.basis[0]))]
        line = self.without_rows(self.head(place) + taken)
        lead = self.first_of(line)
        if lead is not None:
            undoing = over(1, line[lead])
            row = [times(number, undoing) for number in line]
            self.rows = [less(other, other[lead], row) for other in self.rows] + [row]
            self.leads.append(lead)

    def tells(self, wanted):
        """Whether the wanted place is told."""
        return self.first_of(self.without_rows(self.head(wanted))) is None

    def factors_for(self, wanted):
        """For each place how many times it is taken for the wanted one, which is told."""
        wide = len(self.basis)
        line = self.without_rows(self.head(wanted) + [0] * len(self.basis[0]))
        return [minus(0, number) for number in line[wide:]]

    def ghost_of(self, wanted):
        """A filling that is 0 at all places that tell, and not 0 at the wanted one, which is hidden."""
        numbers = [0] * len(self.basis)
        at = self.first_of(self.without_rows(self.head(wanted)))
        numbers[at] = 1
        # So the products of these numbers with each row, and with that with each place that tells, add up to 0.
        for lead, row in zip(self.leads, self.rows):
            numbers[lead] = minus(0, row[at])
        return filled(numbers, self.basis)
