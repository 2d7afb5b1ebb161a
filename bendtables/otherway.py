"""Tables that bend the other way."""

from bendtables.bending import slacks
from bendtables.leasts import least_places


def bend_of(table):
    """Which way a full table bends: "one", "other", "both" or "none"."""
    numbers = [number for line in slacks(table) for number in line]
    one = all(number >= 0 for number in numbers)
    other = all(number <= 0 for number in numbers)
    if one and other:
        return "both"
    if one:
        return "one"
    return "other" if other else "none"


def turned(table):
    """The table with each row from its last entry to its first."""
    return tuple(row[::-1] for row in table)


def negated(table):
    """The table with each number negated."""
    return tuple(tuple([None if number is None else -number for number in row]) for row in table)


def greatest_places(table, side):
    """The column of each row's greatest number, the first or the last of several; None where a row has none."""
    return least_places(negated(table), side)
