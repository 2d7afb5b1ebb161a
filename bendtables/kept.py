"""A table that bends, kept so as rows and columns come and go."""

from bendtables.bending import refuse_crooked, short_of
from bendtables.errors import NoFit, NoPlace, TooMany
from bendtables.kinds import is_number
from bendtables.leasts import least_place, least_places

MOST_LINES = 12


class Kept:
    """A full table that bends, with its least places, for which as few rows as can be are gone through."""

    def __init__(self, table):
        refuse_crooked(table, 0, 0)
        self.rows = table
        self.places = least_places(table, "first")
        self.many_gone = len(table)

    def put_row(self, at, row):
        """Puts a row ahead of the row of a number, or behind all; NoPlace, NoFit, TooMany, Crooked."""
        refuse_to_put(at, row, len(self.rows), len(self.rows[0]))
        rows = with_part(self.rows, at, row)
        # Only the slacks beside what is put are new.
        start = max(at - 1, 0)
        refuse_crooked(rows[start:at + 2], start, 0)
        self.rows = rows
        self.places = with_part(self.places, at, least_place(row, "first"))
        self.many_gone += 1

    def put_column(self, at, column):
        """Puts a column ahead of the column of a number, or behind all; NoPlace, NoFit, TooMany, Crooked."""
        refuse_to_put(at, column, len(self.rows[0]), len(self.rows))
        rows = tuple(with_part(row, at, number) for row, number in zip(self.rows, column))
        start = max(at - 1, 0)
        refuse_crooked(tuple(row[start:at + 2] for row in rows), 0, start)
        self.rows = rows
        self.places = tuple(place_with(row, at, place) for row, place in zip(rows, self.places))

    def take_row(self, at):
        """Takes the row of a number; NoPlace, NoFit where it is the only one."""
        refuse_to_take(at, len(self.rows))
        self.rows = without_part(self.rows, at)
        self.places = without_part(self.places, at)

    def take_column(self, at):
        """Takes the column of a number; NoPlace, NoFit where it is the only one."""
        refuse_to_take(at, len(self.rows[0]))
        self.rows = tuple(without_part(row, at) for row in self.rows)
        self.many_gone += self.places.count(at)
        self.places = tuple(place_without(row, at, place) for row, place in zip(self.rows, self.places))

    def table(self):
        """The table as it is now."""
        return self.rows

    def slacks(self):
        """The slacks of the table."""
        # The last part of the short rule, as the function called slacks has the name of this method.
        return short_of(self.rows)[3]

    def least(self):
        """The least places of the table by the first."""
        return self.places

    def gone(self):
        """How many rows were gone through whole for their least places since the beginning."""
        return self.many_gone


def refuse_to_put(at, line, many, length):
    """NoPlace, NoFit or TooMany where a line cannot be put at a number among so many of this length."""
    if not is_number(at) or not 0 <= at <= many:
        raise NoPlace("a line is put ahead of one that is there, or behind all")
    if len(line) != length:
        raise NoFit("the line is not as long as the others")
    if many >= MOST_LINES:
        raise TooMany("there are twelve such lines or more")


def refuse_to_take(at, many):
    """NoPlace or NoFit where the line of a number cannot be taken from so many."""
    if not is_number(at) or not 0 <= at < many:
        raise NoPlace("there is no line of this number")
    if many == 1:
        raise NoFit("the only line is not taken")


def with_part(parts, at, part):
    """A tuple with one part more, at a number."""
    return parts[:at] + (part,) + parts[at:]


def without_part(parts, at):
    """A tuple without the part of a number."""
    return parts[:at] + parts[at + 1:]


def place_with(row, at, place):
    """The least place of a row with a new number at a column, by the least place that it had without it."""
    moved = place + 1 if at <= place else place
    return min((row[at], at), (row[moved], moved))[1]


def place_without(row, at, place):
    """The least place of a row whose column of a number is taken, by the least place that it had with it."""
    if place == at:
        return least_place(row, "first")
    return place - 1 if at < place else place
