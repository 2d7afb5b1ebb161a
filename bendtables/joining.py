"""Rows, whether they bend up, and what two of them joined come to."""


def bends_up(row):
    """Whether no step from a number of a row to the next is less than the step ahead."""
    steps = [behind - ahead for ahead, behind in zip(row, row[1:])]
    return all(one <= other for one, other in zip(steps, steps[1:]))


def joined(one, other):
    """The least sum at each place of two rows joined, and the first place of the one that comes to it."""
    pairs = [first_least(one, other, at) for at in range(len(one) + len(other) - 1)]
    return (tuple(least for least, first in pairs), tuple(first for least, first in pairs))


def first_least(one, other, at):
    """The least sum at one place, and the first place of the one that comes to it."""
    start = max(0, at - len(other) + 1)
    end = min(at, len(one) - 1)
    # Of like sums the pair with the first place is the least.
    return min([(one[place] + other[at - place], place) for place in range(start, end + 1)])
