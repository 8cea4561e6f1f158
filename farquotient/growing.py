"""The quotient that agrees furthest with a row, found by growing place by place.

A below is kept that agrees with the row at all its places. Where it fails at a new one, it is mended by the below
that failed when the length last rose: each of them fails at one known place alone, so that some times the one less
some times the other, moved to the same place, doesn't fail there.
"""

from farquotient.fields import WholeNumbers, less_in, product_in, trimmed
from farquotient.numbers import NOUGHT, divisor_of, greatest_divisor
from farquotient.rows import check_places, settled, weighed


class Grower:
    """A row that grows, and the quotients of heights (n + off, n) that agree with it."""

    def __init__(self, off):
        self.off = off
        self.numbers = []
        # The row's numbers, each taken share times, are whole.
        self.wholes = []
        self.share = 1
        self.rises = [(0, 0)]
        self.below = (1,)
        # The below that failed when the length last rose, by how much it failed, and how many places ago.
        self.failed = (1,)
        self.fault = 1
        self.since = 1

    def put(self, number):
        """One place more."""
        self.take(number)
        # The first places are the top's alone, whatever the below is.
        place = len(self.numbers) - 1
        if place <= self.off:
            return
        fault = weighed(WholeNumbers(), self.below, self.wholes, place)
        if fault == 0:
            self.since += 1
            return
        newer = self.mended(fault)
        risen = place - self.off - self.length()
        if risen > self.length():
            self.rises.append((place + 1, risen))
            self.failed, self.fault, self.since = self.below, fault, 1
        else:
            self.since += 1
        self.below = newer

    def take(self, number):
        """Puts a number behind the row, with all taken so many times that it is whole, too."""
        top, below = number
        step = below // greatest_divisor(self.share, below)
        self.share *= step
        self.fault *= step
        self.numbers.append((top, below))
        self.wholes = [each * step for each in self.wholes] + [top * (self.share // below)]

    def mended(self, fault):
        """The below that agrees at the newest place, too, where the one so far fails by a fault."""
        field = WholeNumbers()
        moved = (0,) * self.since + self.failed
        wholes = less_in(field, product_in(field, [self.fault], self.below), product_in(field, [fault], moved))
        divisor = divisor_of(wholes)
        return tuple([each // divisor for each in wholes])

    def told_row(self):
        """The list of the numbers so far."""
        return list(self.numbers)

    def length(self):
        """The least n for which a quotient of heights (n + off, n) agrees with the row at all its places."""
        return self.rises[-1][1]

    def told(self):
        """The quotient of heights (length + off, length) that agrees at all places; None where there are several."""
        if len(self.numbers) < 2 * self.length() + self.off + 1:
            return None
        return quotient_with(self, self.below, self.length())

    def jumps(self):
        """The list of tuples (places, length) of each time that the length rose, (0, 0) ahead."""
        return list(self.rises)


def quotient_with(grower, below, length):
    """The quotient of a below of the height length that agrees with a Grower's row, whose top it settles."""
    places = length + grower.off + 1
    top = [weighed(WholeNumbers(), below, grower.wholes, place) for place in range(places)]
    return settled(trimmed(0, top), below, grower.share)


def by_growing(row, m, n):
    """The quotient of heights (m, n) that agrees with a row at the most places; refused where it is too short."""
    check_places(row, m, n)
    # A Grower's top is at most one lower than its below; so many noughts ahead of the row lift all tops to that.
    ahead = max(n - m - 1, 0)
    grower = Grower(m + ahead - n)
    for number in [NOUGHT] * ahead + list(row[: m + n + 1]):
        grower.put(number)
        if grower.length() > n:
            # The below that failed here had agreed far enough: the more its length falls short of n, the less it needs.
            top, below = quotient_with(grower, grower.failed, grower.rises[-2][1])
            return (top[ahead:], below)
    top, below = grower.told()
    return (top[ahead:], below)
