"""Whether joined rows, whoever wrote them, are what they should be."""

from bendtables.joining import joined
from bendtables.kinds import is_same


def joined_holds(one, other, thing):
    """Whether anything is what is told of two rows joined."""
    return is_same(thing, joined(one, other))
