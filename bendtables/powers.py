"""Powers of full tables of as many rows as columns, and ways of the least sum."""

from bendtables.errors import NoFit
from bendtables.products import least_pair, product
from bendtables.tables import laid_over, size_of


def power(table, many):
    """The least sums of so many entries, one behind the other; NoFit where there are not as many rows as columns."""
    refuse_unless_square(table)
    total = table
    # By the digits of the number in twos, from the second on, so that there are few products, however many entries.
    for digit in range(many.bit_length() - 2, -1, -1):
        total = product(total, total)
        if many >> digit & 1:
            total = product(total, table)
    return total


def first_way(table, many, one, other):
    """The first way, as tuples rise, of the least sum of so many steps from one number to the other; NoFit likewise."""
    refuse_unless_square(table)
    way = [one]
    for left in reversed(sums_left(table, many, other)):
        way.append(least_pair(table[way[-1]], left)[1])
    way.append(other)
    return tuple(way)


def sums_left(table, many, other):
    """For 1, 2, .. steps, but fewer than so many: the least sum of as many steps from each number to the other."""
    sums = []
    if many > 1:
        sums.append(laid_over(table)[other])
    while len(sums) < many - 1:
        sums.append(tuple(least_pair(row, sums[-1])[0] for row in table))
    return sums


def refuse_unless_square(table):
    """NoFit where a table has not as many rows as columns."""
    rows, columns = size_of(table)
    if rows != columns:
        raise NoFit("the table has not as many rows as columns")
