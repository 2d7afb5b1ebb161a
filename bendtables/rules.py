"""Rules: tables told by how their numbers are reckoned."""

from bendtables.kinds import is_numbers, is_row
from bendtables.tables import is_table, size_of


def is_rule(thing):
    """Whether anything is a rule."""
    parts = parts_of(thing)
    if not all(is_plain_rule(part) for part in parts):
        return False
    # Both rules of a sum are of one size, so all that a rule is the sum of are.
    return all(plain_size(part) == plain_size(parts[0]) for part in parts)


def parts_of(thing):
    """What a rule is the sum of: all that is no "both", from the left to the right."""
    parts = []
    waiting = [thing]
    while waiting:
        part = waiting.pop()
        if is_both(part):
            waiting.append(part[2])
            waiting.append(part[1])
        else:
            parts.append(part)
    return parts


def is_both(thing):
    """Whether anything has the form of a sum, whatever it is the sum of."""
    return isinstance(thing, tuple) and len(thing) == 3 and thing[0] == "both"


def is_plain_rule(thing):
    """Whether anything is a rule, but no sum."""
    if not isinstance(thing, tuple) or len(thing) == 0:
        return False
    kind = thing[0]
    if kind == "rows":
        return len(thing) == 2 and is_table(thing[1])
    if kind == "apart" or kind == "square":
        return len(thing) == 3 and is_row(thing[1]) and is_row(thing[2])
    if kind == "short":
        return len(thing) == 4 and is_short(thing[1], thing[2], thing[3])
    return False


def is_short(column, row, takes):
    """Whether these are the three parts of a short rule."""
    if not is_row(column) or not is_row(row) or column[0] != row[0]:
        return False
    if not isinstance(takes, tuple) or len(takes) != len(column) - 1:
        return False
    return all(is_numbers(line) and len(line) == len(row) - 1 for line in takes)


def plain_size(rule):
    """How many rows and columns a rule that is no sum has."""
    if rule[0] == "rows":
        return size_of(rule[1])
    return (len(rule[1]), len(rule[2]))


def rule_size(rule):
    """How many rows and columns the table of a rule has."""
    return plain_size(parts_of(rule)[0])


def entry(rule, row, column):
    """What stands at one place of the table of a rule."""
    total = 0
    for part in parts_of(rule):
        number = plain_entry(part, row, column)
        if number is None:
            return None
        total += number
    return total


def plain_entry(rule, row, column):
    """What stands at one place, by a rule that is no sum."""
    if rule[0] == "rows":
        return rule[1][row][column]
    if rule[0] == "short":
        taken = sum(sum(line[:column]) for line in rule[3][:row])
        return rule[1][row] + rule[2][column] - rule[1][0] - taken
    apart = abs(rule[1][row] - rule[2][column])
    return apart * apart if rule[0] == "square" else apart


def table_by(rule):
    """The table of a rule."""
    parts = parts_of(rule)
    table = plain_table(parts[0])
    for part in parts[1:]:
        table = sum_of(table, plain_table(part))
    return table


def plain_table(rule):
    """The table of a rule that is no sum."""
    if rule[0] == "rows":
        return rule[1]
    if rule[0] == "short":
        return short_table(rule[1], rule[2], rule[3])
    rows, columns = plain_size(rule)
    return tuple(tuple([plain_entry(rule, row, column) for column in range(columns)]) for row in range(rows))


def short_table(column, row, takes):
    """The table of a short rule, row by row, so that no sum of takes is reckoned from its beginning again."""
    lines = [row]
    taken = [0] * len(row)
    for start, line in zip(column[1:], takes):
        here = 0
        for at, take in enumerate(line):
            here += take
            taken[at + 1] += here
        lines.append(tuple([start + top - row[0] - less for top, less in zip(row, taken)]))
    return tuple(lines)


def sum_of(one, other):
    """The sum of two tables of one size, None where one has None."""
    return tuple(sum_of_rows(row, under) for row, under in zip(one, other))


def sum_of_rows(one, other):
    """The sum of two rows of one length, None where one has None."""
    return tuple(None if left is None or right is None else left + right for left, right in zip(one, other))
