"""Papers that show of a table that it bends, or where it is crooked."""

from bendtables.bending import crook_of, slacks
from bendtables.tables import is_stepped


def bend_paper(table):
    """The paper of a table."""
    place = crook_of(table)
    if place is not None:
        return ("crooked", *place)
    if is_stepped(table):
        return ("bends", slacks(table))
    return ("each",)
