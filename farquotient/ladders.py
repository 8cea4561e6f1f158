"""Ladders: columns reckoned from sums, each from the two ahead of it, whose even ones tell sums far out."""

from farquotient.numbers import NOUGHT, UNIT, minus, over, plus, times


def sums_of(row, x):
    """The list of the sums of the first 1, 2, .. of a row's numbers, each times x to the power of its place."""
    told = []
    total, power = NOUGHT, UNIT
    for number in row:
        total = plus(total, times(number, power))
        power = times(power, x)
        told.append(total)
    return told


def ladder(sums):
    """The list of columns of a list of sums, down to the column of one."""
    columns = [list(sums)]
    ahead = [NOUGHT] * len(sums)
    while len(columns[-1]) > 1:
        newest = columns[-1]
        columns.append(next_column(ahead, newest))
        ahead = newest
    return columns


def next_column(ahead, newest):
    """The column behind two neighbours."""
    told = []
    for place in range(len(newest) - 1):
        told.append(step_up(ahead[place + 1], newest[place + 1], newest[place]))
    return told


def step_up(start, one, other):
    """Start and 1 over the difference of one less other; None where that is nought or one of these is None."""
    if start is None or one is None or other is None or one == other:
        return None
    return plus(start, over(UNIT, minus(one, other)))


def far_sum(row, x):
    """The last number in the greatest even column of the ladder of a row's sums at x that isn't all None."""
    told = None
    for column in ladder(sums_of(row, x))[::2]:
        numbers = [each for each in column if each is not None]
        if numbers:
            told = numbers[-1]
    return told
