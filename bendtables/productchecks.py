"""Whether products and ways, whoever wrote them, are what they should be."""

from bendtables.kinds import is_number, is_same
from bendtables.powers import power
from bendtables.products import mids, product


def product_holds(one, other, thing):
    """Whether anything is the product and the mids of two full tables that fit."""
    return is_same(thing, (product(one, other), mids(one, other)))


def way_holds(table, many, one, other, thing):
    """Whether anything is a way of the least sum, of so many steps from one number to the other."""
    if not is_way(table, thing) or len(thing) != many + 1:
        return False
    if thing[0] != one or thing[-1] != other:
        return False
    total = sum(table[step][after] for step, after in zip(thing, thing[1:]))
    return total == power(table, many)[one][other]


def is_way(table, thing):
    """Whether anything is a tuple of numbers of the table's rows."""
    return isinstance(thing, tuple) and all(is_number(part) and 0 <= part < len(table) for part in thing)
