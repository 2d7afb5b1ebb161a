"""Tables of two rows mended at the least sum, with pairs of columns that show that there is no lesser one.

Two rows bend where their rise, what stands below less what stands above, nowhere grows from a column to the next. A
mend changes the rises, and changes each by no more than it changes the column's entries. So wanted are rises that do
not grow, at the least change. Two columns k < l are crooked by as much as l's rise is above k's, and by as much any
mend changes the two: pairs of unlike columns that come to the sum of a mend show that it is the least.

The columns are gone through from the left, as one who may buy or sell one thing a day does for the greatest gain: a
column is sold where a lesser rise lies in the pool, for the least one there. A column that was sold lies in the pool
twice: taken once it is sold no more, taken twice it is bought. What is bought and sold in the end are the pairs; the
least rise left in the pool behind each column is where the mend of the columns so far ends.
"""

from bendtables.errors import NoFit
from bendtables.tables import size_of


def mended(table):
    """The least sum of a mend of a full table of two rows, such a mend, and its pairs; NoFit of other tables."""
    if size_of(table)[0] != 2:
        raise NoFit("the table has not two rows")
    upper, lower = table
    rises = [under - over for over, under in zip(upper, lower)]
    trades, floors = traded(rises)
    mends = never_growing(floors)
    total = sum([abs(rise - mend) for rise, mend in zip(rises, mends)])
    return (total, (upper, tuple(over + mend for over, mend in zip(upper, mends))), pairs_by(rises, trades))


def traded(rises):
    """For each column -1 where it is bought, 1 where it is sold, else 0; and the least rise in the pool behind it."""
    pool = []
    trades = [0] * len(rises)
    floors = []
    for column, rise in enumerate(rises):
        pool.append((rise, column))
        least = min(pool)
        if least[0] < rise:
            pool.remove(least)
            pool.append((rise, column))
            trades[least[1]] -= 1
            trades[column] += 1
        floors.append(min(pool)[0])
    return (trades, floors)


def never_growing(floors):
    """The least numbers, none less than its floor, none of which is more than the one ahead."""
    numbers = []
    for floor in reversed(floors):
        numbers.append(max(floor, numbers[-1]) if numbers else floor)
    return tuple(reversed(numbers))


def pairs_by(rises, trades):
    """The columns that are bought, each with one behind it that is sold for it."""
    waiting = []
    pairs = []
    for column, trade in enumerate(trades):
        if trade < 0:
            waiting.append(column)
        if trade > 0:
            pairs.append((waiting.pop(), column))
    # A pair of like rises adds nothing, and none loses, as without it there would be more.
    return tuple(sorted([pair for pair in pairs if rises[pair[0]] < rises[pair[1]]]))
