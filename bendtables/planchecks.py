"""Whether plans, whoever wrote them, cost the least, in fewer looks than finding them.

Whatever the worths are, with a row for each number of things, a column for each last cut, and there the worth of the
things ahead of the cut and the cost from it together, there is a stepped table that bends. The froms must be its
least places, which takes at most three looks for each thing; where the least of each row is its worth, too, then
from the first one on each worth is right.
"""

from bendtables.kinds import is_row
from bendtables.placechecks import places_holds
from bendtables.seeing import Seen


def plan_holds(look, many, thing):
    """Whether anything is the worths and the froms of so many things."""
    if not isinstance(thing, tuple) or len(thing) != 2:
        return False
    worths, froms = thing
    if not is_row(worths) or len(worths) != many + 1 or worths[0] != 0:
        return False
    costs = Seen(look)

    def worth(row, column):
        return worths[column] + costs.number_at(column, row + 1)

    if not places_holds(worth, tuple((0, last) for last in range(many)), "first", froms):
        return False
    return all(worth(at, place) == worths[at + 1] for at, place in enumerate(froms))
