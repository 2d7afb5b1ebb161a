"""Whether tables bend, where they are crooked, and the slacks of stepped ones."""

from bendtables.errors import Crooked


def bends(table):
    """Whether a table bends."""
    return crook_of(table) is None


def crook_of(table):
    """The first place (i, j, k, l) at which a table is crooked, None where it bends."""
    for upper in range(len(table)):
        for lower in range(upper + 1, len(table)):
            left = first_left(table[upper], table[lower])
            if left is not None:
                return (upper, lower, left, first_right(table[upper], table[lower], left))
    return None


def first_left(upper, lower):
    """The least column k such that two rows are crooked at k and some l, or None."""
    # Going from the right, the steepest column that can be l tells of each k whether there is such an l.
    found = None
    steepest = None
    for column in range(len(upper) - 1, -1, -1):
        steep = steepness(upper[column], lower[column])
        if steepest is not None and steepest > steep:
            found = column
        if upper[column] is not None and (steepest is None or steep > steepest):
            steepest = steep
    return found


def steepness(over, under):
    """By how much a column rises from one row to the other, as a rank."""
    # Where l has a number above, two rows are crooked at k < l just where l is steeper than k. So a lack below is
    # steeper than all numbers: it makes each such l crooked, and no k. A lack above is less steep than all of them.
    if under is None:
        return (1, 0)
    if over is None:
        return (-1, 0)
    return (0, under - over)


def first_right(upper, lower, left):
    """The least column l such that two rows are crooked at k and l, for a k that has one."""
    right = left + 1
    while not is_crooked(upper, lower, left, right):
        right += 1
    return right


def is_crooked(upper, lower, left, right):
    """Whether two rows are crooked at two columns."""
    if upper[right] is None or lower[left] is None:
        return False
    if upper[left] is None or lower[right] is None:
        return True
    return upper[left] + lower[right] > upper[right] + lower[left]


def slacks(table):
    """The slacks of a stepped table."""
    return tuple(slack_row(upper, lower) for upper, lower in zip(table, table[1:]))


def slack_row(upper, lower):
    """The slacks of a row and the next."""
    return tuple(slack(upper, lower, column) for column in range(len(upper) - 1))


def slack(upper, lower, left):
    """What is crossed less what is straight at a column and the next; None where a crossed number lacks."""
    right = left + 1
    if upper[right] is None or lower[left] is None:
        return None
    return upper[right] + lower[left] - upper[left] - lower[right]


def short_of(table):
    """The short rule of a full table."""
    return ("short", tuple(row[0] for row in table), table[0], slacks(table))


def refuse_crooked(part, row, column):
    """Crooked where a part of a full table, whose first place is this one of the table, does not bend."""
    for upper, line in enumerate(slacks(part)):
        for left, number in enumerate(line):
            if number < 0:
                raise Crooked(row + upper, column + left)
