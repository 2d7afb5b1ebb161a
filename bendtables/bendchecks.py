"""Whether papers of tables, whoever wrote them, hold."""

from bendtables.bending import bends, is_crooked, slacks
from bendtables.kinds import is_number, is_same
from bendtables.tables import is_stepped, size_of


def bend_paper_holds(table, thing):
    """Whether anything is a paper of the table."""
    if not isinstance(thing, tuple) or len(thing) == 0:
        return False
    kind = thing[0]
    if kind == "bends":
        return len(thing) == 2 and slacks_hold(table, thing[1])
    if kind == "each":
        return len(thing) == 1 and bends(table)
    if kind == "crooked":
        return len(thing) == 5 and crook_holds(table, thing[1:])
    return False


def slacks_hold(table, thing):
    """Whether a table is stepped and anything is its slacks, none below 0."""
    if not is_stepped(table) or not is_same(thing, slacks(table)):
        return False
    return all(slack is None or slack >= 0 for row in thing for slack in row)


def crook_holds(table, place):
    """Whether a tuple of four things is a place where the table is crooked."""
    rows, columns = size_of(table)
    upper, lower, left, right = place
    if not are_two_below(upper, lower, rows) or not are_two_below(left, right, columns):
        return False
    return is_crooked(table[upper], table[lower], left, right)


def are_two_below(one, other, many):
    """Whether two things are numbers from 0 on, rising, both below a number."""
    return is_number(one) and is_number(other) and 0 <= one < other < many
