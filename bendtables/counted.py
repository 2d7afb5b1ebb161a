"""Plans of just so many stretches.

The plans of one stretch more are found from those of one fewer: with a row for each number of things, a column for
each last cut, and there the least cost of a plan with that last cut, they are a stepped table that bends.
"""

from bendtables.errors import NoFit
from bendtables.kinds import is_number
from bendtables.looking import least_by
from bendtables.seeing import Seen


def planned_in(look, many, count):
    """The least cost of a plan of just so many stretches, and such a plan; NoFit where there can be none."""
    if not is_number(count) or not 1 <= count <= many:
        raise NoFit("there are no plans of so many stretches")
    layers = layers_of(look, many, count)
    return (layers[-1][0][-1], cuts_back(layers, many))


def worths_by_count(look, many):
    """The least costs of plans of 1, 2, .. up to as many stretches as there are things."""
    return tuple(worths[-1] for worths, froms in layers_of(look, many, many))


def layers_of(look, many, count):
    """For 1, 2, .. up to so many stretches the least costs and the least last cuts of plans of the first things.

    In each, the first number is that of as many things as there are stretches, the last that of all things.
    """
    costs = Seen(look)
    layers = [([costs.number_at(0, things) for things in range(1, many + 1)], [0] * many)]
    for stretches in range(2, count + 1):
        layers.append(layer_behind(costs, layers[-1][0], many, stretches))
    return layers


def layer_behind(costs, ahead, many, stretches):
    """The least costs and last cuts of plans of so many stretches, by the least costs of those of one fewer."""

    def worth(row, column):
        return ahead[column] + costs.number_at(stretches - 1 + column, stretches + row)

    places = least_by(worth, tuple((0, last) for last in range(many - stretches + 1)), "first")
    worths = [worth(at, place) for at, place in enumerate(places)]
    return (worths, [stretches - 1 + place for place in places])


def cuts_back(layers, many):
    """The plan of all things, read back by the last cuts of each number of stretches."""
    cuts = [many]
    for at in range(len(layers) - 1, -1, -1):
        # The plans of at + 1 stretches begin with those of at + 1 things.
        cuts.append(layers[at][1][cuts[-1] - at - 1])
    return tuple(reversed(cuts))
