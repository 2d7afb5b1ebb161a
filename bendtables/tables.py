"""Tables: what one is, how large it is, where its numbers stand."""

from bendtables.kinds import is_entries


def is_table(thing):
    """Whether anything is a table."""
    if not isinstance(thing, tuple) or len(thing) == 0:
        return False
    if not all(is_line(row) for row in thing):
        return False
    return all(len(row) == len(thing[0]) for row in thing)


def is_line(thing):
    """Whether anything can be a row of a table."""
    return is_entries(thing) and len(thing) > 0


def size_of(table):
    """How many rows and how many columns a table has."""
    return (len(table), len(table[0]))


def is_full(table):
    """Whether a number stands at each place."""
    return all(number is not None for row in table for number in row)


def stretch_of(row):
    """The first and the last column of a row's numbers; None where they are not all side by side, or none is there."""
    columns = [column for column, number in enumerate(row) if number is not None]
    if len(columns) == 0 or columns[-1] - columns[0] >= len(columns):
        return None
    return (columns[0], columns[-1])


def is_stepped(table):
    """Whether each row's numbers are one stretch, and the stretches never step left."""
    stretches = stretches_of(table)
    if None in stretches:
        return False
    return all(one[0] <= other[0] and one[1] <= other[1] for one, other in zip(stretches, stretches[1:]))


def stretches_of(table):
    """The first and last column of each row of a stepped table."""
    return tuple(stretch_of(row) for row in table)


def laid_over(table):
    """The table with its columns as rows."""
    return tuple(zip(*table))
