"""Webs made of full tables that bend.

Each row of the web has the steps of the table's row as its links right, and the links up are of length 0. As the table
bends, no step of a row is more than that of a row above. So no way is shorter than the one that goes right first, and
up at its column; and that one is as long as the table says.
"""

from bendtables.bending import refuse_crooked
from bendtables.tables import size_of


def web_of(table):
    """A web whose table is this full one; Crooked where it does not bend."""
    refuse_crooked(table, 0, 0)
    rows, columns = size_of(table)
    zeros = (0,) * columns
    return (tuple(row[0] for row in table), tuple(steps_of(row) for row in table), (zeros,) * (rows - 1), zeros)


def steps_of(row):
    """The step from each number of a row to the next."""
    return tuple(other - one for one, other in zip(row, row[1:]))
