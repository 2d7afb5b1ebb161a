"""Whether findings, whoever wrote them, are so."""

from bendtables.bendchecks import bend_paper_holds
from bendtables.bending import bends
from bendtables.gonechecks import stays_holds
from bendtables.joinchecks import joined_holds
from bendtables.kinds import is_number, is_row, is_same
from bendtables.leasts import least_places
from bendtables.mendchecks import mended_holds, shown_by
from bendtables.planchecks import plan_holds
from bendtables.productchecks import product_holds
from bendtables.tables import is_full, is_stepped, is_table, size_of
from bendtables.webs import is_web, web_table


def finding_holds(thing):
    """Whether anything is a finding that holds."""
    if not isinstance(thing, tuple) or len(thing) == 0:
        return False
    kind, *parts = thing
    if kind == "paper":
        return len(parts) == 2 and paper_is_so(*parts)
    if kind == "least":
        return len(parts) == 3 and least_is_so(*parts)
    if kind == "joined":
        return len(parts) == 4 and joined_is_so(*parts)
    if kind == "product":
        return len(parts) == 4 and product_is_so(*parts)
    if kind == "plan":
        return len(parts) == 3 and plan_is_so(*parts)
    if kind == "web":
        return len(parts) == 2 and web_is_so(*parts)
    if kind == "gone":
        return len(parts) == 3 and gone_is_so(*parts)
    if kind == "mend":
        return len(parts) == 4 and mend_is_so(*parts)
    if kind == "bound":
        return len(parts) == 3 and bound_is_so(*parts)
    return False


def is_full_table(thing):
    """Whether anything is a full table."""
    return is_table(thing) and is_full(thing)


def paper_is_so(table, paper):
    """Whether it is a table and its paper."""
    return is_table(table) and bend_paper_holds(table, paper)


def least_is_so(table, side, places):
    """Whether it is a stepped table that bends, a side, and its least places by it."""
    if side != "first" and side != "last":
        return False
    if not is_table(table) or not is_stepped(table) or not bends(table):
        return False
    return is_same(places, least_places(table, side))


def joined_is_so(one, other, sums, firsts):
    """Whether it is two rows and what is told of them joined."""
    return is_row(one) and is_row(other) and joined_holds(one, other, (sums, firsts))


def product_is_so(one, other, least, middles):
    """Whether it is two full tables that fit, their product and its mids."""
    if not is_full_table(one) or not is_full_table(other) or size_of(one)[1] != size_of(other)[0]:
        return False
    # Tables of few entries may have a product of many; one of another size is not reckoned.
    if not is_table(least) or size_of(least) != (size_of(one)[0], size_of(other)[1]):
        return False
    return product_holds(one, other, (least, middles))


def plan_is_so(table, worths, froms):
    """Whether it is a table of costs that bends, and the worths and froms by them."""
    if not is_table(table) or not are_costs(table) or not bends(table):
        return False

    def look(row, column):
        return table[row][column]

    return plan_holds(look, len(table), (worths, froms))


def are_costs(table):
    """Whether a table has one row fewer than columns, and numbers just where the row is less than the column."""
    rows, columns = size_of(table)
    if rows + 1 != columns:
        return False
    return all((table[row][column] is None) == (row >= column) for row in range(rows) for column in range(columns))


def web_is_so(web, table):
    """Whether it is a web and its table."""
    return is_web(web) and is_same(table, web_table(web))


def gone_is_so(table, stays, levels):
    """Whether it is a full table, as many rows as can stay, and their levels."""
    return is_full_table(table) and stays_holds(table, (stays, levels))


def mend_is_so(table, total, mend, pairs):
    """Whether it is a full table of two rows, and its least sum, a mend and pairs."""
    return is_full_table(table) and size_of(table)[0] == 2 and mended_holds(table, (total, mend, pairs))


def bound_is_so(table, twos, number):
    """Whether it is a full table, twos of it, and the number that is shown by them."""
    return is_full_table(table) and is_number(number) and shown_by(table, twos) == number
