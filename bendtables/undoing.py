"""Joined rows undone."""


def undone(row, other):
    """The least row that joined with the other has nowhere less than a row that is no shorter than the other."""
    return tuple(greatest_less(row[start:], other) for start in range(len(row) - len(other) + 1))


def greatest_less(row, other):
    """The greatest of a row's numbers less the other's, place by place, as far as the other goes."""
    return max([number - less for number, less in zip(row, other)])
