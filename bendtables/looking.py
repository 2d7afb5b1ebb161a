"""The least places of a stepped table that bends, known by looks, in few of them.

Of two columns the rows from some row on would rather have the right one, those ahead the left one. So a column that
loses to another one for all rows left to it is dropped, until there are no more columns than rows; then every other
row is done by itself, and the rows between lie between their neighbours' places. Dropping looks at no more than
three places for each column, and the columns halve as the rows do: in all it is no more than three places for each
column and nine for each row.
"""

from bendtables.seeing import Seen


def least_by(look, stretches, side):
    """The least places of the rows of a stepped table that bends, looked at by a look."""
    sight = Sight(look, stretches, side)
    columns = list(range(stretches[0][0], stretches[-1][1] + 1))
    rows = list(range(len(stretches)))
    places = places_of(sight, rows, columns)
    return tuple(places[row] for row in rows)


class Sight:
    """A look with its stretches, by which a row's columns are compared."""

    def __init__(self, look, stretches, side):
        self.seen = Seen(look)
        self.stretches = stretches
        self.side = side

    def worth(self, row, column):
        """What a place of a row is compared by, the less the better."""
        # Beyond its stretch a row would rather have what is nearer, so that there, too, the rows ahead go left
        # and the rows behind go right.
        first, last = self.stretches[row]
        if column < first:
            return (1, -column)
        if column > last:
            return (2, column)
        return (0, self.seen.number_at(row, column))

    def goes_right(self, row, left, right):
        """Whether a row would rather have the right one of two columns."""
        if self.side == "first":
            return self.worth(row, right) < self.worth(row, left)
        return self.worth(row, right) <= self.worth(row, left)


def places_of(sight, rows, columns):
    """The least place of each of the rows, by row, all of them being among the columns."""
    if len(rows) == 0:
        return {}
    kept = kept_columns(sight, rows, columns)
    places = places_of(sight, rows[1::2], kept)
    fill_between(sight, rows, kept, places)
    return places


def kept_columns(sight, rows, columns):
    """The columns, no more than there are rows, among which all least places of the rows are."""
    kept = []
    for column in columns:
        # The column kept at some place has lost for all rows ahead of that place's row already.
        while kept and sight.goes_right(rows[len(kept) - 1], kept[-1], column):
            kept.pop()
        if len(kept) < len(rows):
            kept.append(column)
    return kept


def fill_between(sight, rows, columns, places):
    """Puts the least places of the first, third, fifth .. row between those of their neighbours."""
    at = 0
    for number in range(0, len(rows), 2):
        row = rows[number]
        end = places[rows[number + 1]] if number + 1 < len(rows) else columns[-1]
        best = columns[at]
        while columns[at] < end:
            at += 1
            if sight.goes_right(row, best, columns[at]):
                best = columns[at]
        places[row] = best
