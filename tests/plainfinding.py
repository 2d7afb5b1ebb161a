"""Findings by point 29's words, each by plain reckoning."""

from tests.making import (
    crooks, is_plain_full_table, is_plain_gone, is_plain_mended, is_plain_table, is_plain_web, kinds_of, most_that_stay, plain_joined,
    plain_least, plain_planned, plain_product, plain_shown, plain_slacks, plain_web_table, steps_right,
)


def is_told(thing, right):
    """Whether it is the same, kind by kind."""
    return kinds_of(thing) == kinds_of(right)


def paper_holds(table, paper):
    if not is_plain_table(table) or type(paper) is not tuple or not paper or type(paper[0]) is not str:
        return False
    kind, *parts = paper
    if kind == "bends" and len(parts) == 1:
        return steps_right(table) and not crooks(table) and is_told(parts[0], plain_slacks(table))
    if kind == "crooked" and len(parts) == 4:
        return all(type(part) is int for part in parts) and tuple(parts) in crooks(table)
    return kind == "each" and not parts and not crooks(table)


def least_holds(table, side, places):
    if not is_plain_table(table) or type(side) is not str or side not in ("first", "last"):
        return False
    return steps_right(table) and not crooks(table) and is_told(places, plain_least(table, side))


def is_plain_row(thing):
    return type(thing) is tuple and len(thing) > 0 and all(type(number) is int for number in thing)


def joined_holds(one, other, sums, firsts):
    return is_plain_row(one) and is_plain_row(other) and is_told((sums, firsts), plain_joined(one, other))


def product_holds(one, other, table, mids):
    if not is_plain_full_table(one) or not is_plain_full_table(other) or len(one[0]) != len(other):
        return False
    return is_told((table, mids), plain_product(one, other))


def plan_holds(table, worths, froms):
    if not is_plain_table(table) or len(table) + 1 != len(table[0]):
        return False
    if any((number is not None) != (i < k) for i, row in enumerate(table) for k, number in enumerate(row)):
        return False
    return not crooks(table) and is_told((worths, froms), plain_planned(table))


def web_holds(web, table):
    return is_plain_web(web) and is_told(table, plain_web_table(web))


def gone_holds(table, stays, levels):
    return is_plain_full_table(table) and is_plain_gone(table, most_that_stay(table), (stays, levels))


def mend_holds(table, total, mend, pairs):
    return is_plain_full_table(table) and len(table) == 2 and is_plain_mended(table, (total, mend, pairs))


def bound_holds(table, twos, number):
    return is_plain_full_table(table) and type(number) is int and plain_shown(table, twos) == number


KINDS = {
    "paper": (2, paper_holds), "least": (3, least_holds), "joined": (4, joined_holds), "product": (4, product_holds), "plan": (3, plan_holds),
    "web": (2, web_holds), "gone": (3, gone_holds), "mend": (4, mend_holds), "bound": (3, bound_holds),
}


def plain_finding(thing):
    """Whether anything is a finding that holds."""
    if type(thing) is not tuple or not thing or type(thing[0]) is not str or thing[0] not in KINDS:
        return False
    many, holds = KINDS[thing[0]]
    return len(thing) == many + 1 and holds(*thing[1:])
