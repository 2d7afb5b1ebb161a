"""Products of full tables, and by which middle they come about."""

from bendtables.errors import NoFit
from bendtables.tables import laid_over, size_of


def product(one, other):
    """The least sums of two full tables; NoFit where the one has not as many columns as the other has rows."""
    return tuple(tuple([least for least, mid in row]) for row in least_pairs(one, other))


def mids(one, other):
    """The first middle of each least sum of two full tables; NoFit where they do not fit."""
    return tuple(tuple([mid for least, mid in row]) for row in least_pairs(one, other))


def least_pairs(one, other):
    """For each place of the product its number and the first middle that comes to it."""
    if size_of(one)[1] != size_of(other)[0]:
        raise NoFit("the one has not as many columns as the other has rows")
    columns = laid_over(other)
    return [[least_pair(row, column) for column in columns] for row in one]


def least_pair(row, column):
    """The least sum of a row's and a column's numbers, and the first place that comes to it."""
    # Of like sums the pair with the first place is the least.
    return min([(left + right, mid) for mid, (left, right) in enumerate(zip(row, column))])
