"""How a below is kept that agrees with a row while it grows, whatever numbers the row is of.

Where the below fails at a new place, it is mended by the one that failed when the height last rose: each of them
fails by a known number at one known place, so that some times the one less some times the other, moved to the same
place, doesn't fail there.
"""

from farquotient.fields import less_in, product_in, trimmed
from farquotient.rows import weighed


class Mender:
    """A below with which a row agrees, as part of a quotient of the least heights (n + off, n) that do.

    Below's number 0 isn't nought, but needn't be 1.
    """

    def __init__(self, field, off):
        self.field = field
        self.off = off
        # How many places there were when the height rose, and to what.
        self.rises = [(0, 0)]
        self.below = (field.unit,)
        # The below that failed when the height last rose, by how much it failed, and how many places ago.
        self.failed = (field.unit,)
        self.fault = field.unit
        self.since = 1

    def height(self):
        """The least n so far."""
        return self.rises[-1][1]

    def grow(self, row):
        """Has the below agree at the last place of a row, too, whose other places it has seen."""
        place = len(row) - 1
        # The first places are the top's alone, whatever the below is.
        if place <= self.off:
            return
        fault = weighed(self.field, self.below, row, place)
        if fault == self.field.nought:
            self.since += 1
            return
        newer = self.mended(fault)
        risen = place - self.off - self.height()
        if risen > self.height():
            self.rises.append((place + 1, risen))
            self.failed, self.fault, self.since = self.below, fault, 1
        else:
            self.since += 1
        self.below = newer

    def mended(self, fault):
        """The below that agrees at the newest place, too, where the one so far fails by a fault."""
        field = self.field
        moved = (field.nought,) * self.since + self.failed
        here = product_in(field, [self.fault], self.below)
        return field.simplest(less_in(field, here, product_in(field, [fault], moved)))

    def is_sure(self, places):
        """Whether there is just one quotient of the least heights that agrees with so many places."""
        return places >= 2 * self.height() + self.off + 1


def top_with(field, below, row, many):
    """The polynomial of the first many places of below times a row."""
    return trimmed(field.nought, [weighed(field, below, row, place) for place in range(many)])
