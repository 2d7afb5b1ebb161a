"""Whether rows that stay, whoever chose them, are as many as can stay."""

from bendtables.bending import bends
from bendtables.kinds import is_numbers


def stays_holds(table, thing):
    """Whether anything is the rows that stay and the levels of a full table."""
    if not isinstance(thing, tuple) or len(thing) != 2:
        return False
    stays, levels = thing
    return stays_bend(table, stays) and levels_hold(table, levels, len(stays))


def stays_bend(table, stays):
    """Whether anything is a rising tuple of unlike rows that bend together."""
    if not is_numbers(stays) or not all(0 <= row < len(table) for row in stays):
        return False
    if not all(one < other for one, other in zip(stays, stays[1:])):
        return False
    return bends(tuple(table[row] for row in stays))


def levels_hold(table, levels, many):
    """Whether anything has for each row a level below so many, and no two rows of one level bend."""
    if not is_numbers(levels) or len(levels) != len(table) or not all(0 <= level < many for level in levels):
        return False
    # Rows that stay are all of unlike levels then, so that there are no more of them than levels.
    for lower, level in enumerate(levels):
        if any(levels[upper] == level and bends((table[upper], table[lower])) for upper in range(lower)):
            return False
    return True
