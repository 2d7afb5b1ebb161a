"""Whether mends of two rows, whoever wrote them, have the least sum, and bounds of the mends of any full table.

At a place where a table is crooked any mend changes the four entries by no less than it is crooked there. So where
places share no entry of the table, no mend has a lesser sum than what the table is crooked at all of them together.
"""

from bendtables.bendchecks import crook_holds
from bendtables.bending import bends
from bendtables.kinds import is_number
from bendtables.tables import is_full, is_table, size_of


def mended_holds(table, thing):
    """Whether anything is the sum, a mend and the pairs of a full table of two rows."""
    if not isinstance(thing, tuple) or len(thing) != 3:
        return False
    total, mend, pairs = thing
    if not is_number(total) or not is_mend(table, mend) or differences(table, mend) != total:
        return False
    return shown_by_pairs(table, pairs) == total


def is_mend(table, thing):
    """Whether anything is a mend of a full table."""
    return is_table(thing) and size_of(thing) == size_of(table) and is_full(thing) and bends(thing)


def differences(table, mend):
    """By how much the entries of two full tables of one size differ, together."""
    return sum([abs(one - other) for row, under in zip(table, mend) for one, other in zip(row, under)])


def shown_by_pairs(table, thing):
    """By how much two rows are crooked at all pairs of columns together; None of anything that are no such pairs."""
    if not isinstance(thing, tuple) or not all(isinstance(pair, tuple) for pair in thing):
        return None
    return shown_by(table, tuple((0, 1, *pair) for pair in thing))


def shown_by(table, thing):
    """By how much a full table is crooked at all twos together; None of anything that are no twos."""
    if not isinstance(thing, tuple) or not all(is_two(table, place) for place in thing):
        return None
    if not all(one < other for one, other in zip(thing, thing[1:])):
        return None
    entries = [entry for place in thing for entry in entries_at(place)]
    if len(set(entries)) < len(entries):
        return None
    return sum([crooked_by(table, place) for place in thing])


def is_two(table, thing):
    """Whether anything is a place at which a table is crooked."""
    return isinstance(thing, tuple) and len(thing) == 4 and crook_holds(table, thing)


def entries_at(place):
    """The four places of the table at which two rows and two columns meet."""
    upper, lower, left, right = place
    return [(upper, left), (upper, right), (lower, left), (lower, right)]


def crooked_by(table, place):
    """What is straight less what is crossed."""
    upper, lower, left, right = place
    return table[upper][left] + table[lower][right] - table[upper][right] - table[lower][left]
