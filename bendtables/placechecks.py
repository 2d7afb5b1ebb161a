"""Whether least places, whoever wrote them, are those of a stepped table that bends, in fewer looks than finding them.

Places that step right are the least ones of their rows where each is so from the place of the row ahead to that of
the row behind: what lies beyond loses to a neighbour's place in that neighbour's row, so in this row, too. All rows
looked at from one neighbour's place to the other's are no more than one place for each row and two for each column.
"""

from bendtables.kinds import is_number


def places_holds(look, stretches, side, thing):
    """Whether anything is a tuple of the least places of the rows."""
    if not can_be_places(stretches, thing):
        return False
    return all(is_least_between(look, stretches, side, thing, row) for row in range(len(thing)))


def can_be_places(stretches, thing):
    """Whether anything is a tuple of a column within each row's stretch, none less than the one ahead."""
    if not isinstance(thing, tuple) or len(thing) != len(stretches):
        return False
    if not all(is_within(place, stretch) for place, stretch in zip(thing, stretches)):
        return False
    return all(one <= other for one, other in zip(thing, thing[1:]))


def is_within(thing, stretch):
    """Whether anything is a column of a stretch."""
    return is_number(thing) and stretch[0] <= thing <= stretch[1]


def is_least_between(look, stretches, side, places, row):
    """Whether the place of a row is its least one from the place of the row ahead to that of the row behind."""
    first, last = stretches[row]
    if row > 0:
        first = max(first, places[row - 1])
    if row + 1 < len(places):
        last = min(last, places[row + 1])
    least = look(row, places[row])
    ahead = [look(row, column) for column in range(first, places[row])]
    behind = [look(row, column) for column in range(places[row] + 1, last + 1)]
    if side == "first":
        return all(least < number for number in ahead) and all(least <= number for number in behind)
    return all(least <= number for number in ahead) and all(least < number for number in behind)
