"""The fewest rows go so that what stays bends, with levels that show that no more rows can stay.

Where two rows bend, and the second of them and a third one, the first and the third do, too. So a choice bends where
each of its rows bends with the next. The level of a row is how many rows can stay ahead of it, all bending with it;
of two rows that bend the second one then has a higher level.
"""

from bendtables.bending import bends


def stays_of(table):
    """As many rows of a full table as can stay and bend, and a level for each row."""
    levels = []
    aheads = []
    for at, row in enumerate(table):
        aheads.append(highest_ahead(table[:at], levels, row))
        levels.append(0 if aheads[at] is None else levels[aheads[at]] + 1)
    return (stays_by(aheads, levels.index(max(levels))), tuple(levels))


def highest_ahead(rows, levels, row):
    """The number of a row of the highest level among these rows that bends with a row behind them, or None."""
    found = None
    for at, upper in enumerate(rows):
        if bends((upper, row)) and (found is None or levels[at] > levels[found]):
            found = at
    return found


def stays_by(aheads, last):
    """The rows that stay, read back from the last of them."""
    stays = [last]
    while aheads[stays[-1]] is not None:
        stays.append(aheads[stays[-1]])
    return tuple(reversed(stays))
