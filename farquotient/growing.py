"""The quotient that agrees furthest with a row, found by growing place by place."""

from farquotient.fields import WholeNumbers
from farquotient.menders import Mender, top_with
from farquotient.numbers import greatest_divisor
from farquotient.rows import check_places, settled


class Grower:
    """A row that grows, and the quotients of heights (n + off, n) that agree with it."""

    def __init__(self, off):
        self.numbers = []
        # The row's numbers, each taken share times, are whole.
        self.wholes = []
        self.share = 1
        self.mender = Mender(WholeNumbers(), off)

    def put(self, number):
        """One place more."""
        top, below = number
        step = below // greatest_divisor(self.share, below)
        self.share *= step
        self.numbers.append((top, below))
        self.wholes = [each * step for each in self.wholes] + [top * (self.share // below)]
        mender = self.mender
        # The fault was reckoned with the row as often as it was taken so far.
        mender.fault *= step
        mender.grow(self.wholes)

    def told_row(self):
        """The list of the numbers so far."""
        return list(self.numbers)

    def length(self):
        """The least n for which a quotient of heights (n + off, n) agrees with the row at all its places."""
        return self.mender.height()

    def told(self):
        """The quotient of heights (length + off, length) that agrees at all places; None where there are several."""
        if not self.mender.is_sure(len(self.numbers)):
            return None
        return quotient_with(self, self.mender.below, self.length())

    def jumps(self):
        """The list of tuples (places, length) of each time that the length rose, (0, 0) ahead."""
        return list(self.mender.rises)


def quotient_with(grower, below, length):
    """The quotient of a below of at most the height length that agrees with a Grower's row."""
    top = top_with(WholeNumbers(), below, grower.wholes, length + grower.mender.off + 1)
    return settled(top, below, grower.share)


def by_growing(row, m, n):
    """The quotient of heights (m, n) that agrees with a row at the most places; refused where it is too short."""
    check_places(row, m, n)
    grower = Grower(m - n)
    for number in row[: m + n + 1]:
        grower.put(number)
        if grower.length() > n:
            # The below that failed here is the furthest's: the lower it is than n, the fewer places it needs.
            return quotient_with(grower, grower.mender.failed, grower.mender.rises[-2][1])
    return grower.told()
