"""Plans by stretches of the least cost, in few looks.

A cut can be the last one of a plan of any more things than lie ahead of it. Of two cuts, as the costs bend, the later
one is better from some number of things on, if at all, and the earlier one below. So the cuts that are still the best
for some number of things to come stand in a line, rising, each with the number from which on it is the best. A cut
that comes takes the place of those at the line's end that it beats where they begin; where it begins itself is found
by halving. For each thing that is two looks at each of b places, four where cuts leave the line or stay in it, and
one for the worth: 2 b + 5 in all.
"""

from bendtables.seeing import Seen


def planned(look, many):
    """The least costs of plans of 0, 1, .. up to so many things, and for each but the first its least last cut."""
    race = Race(look, many)
    for cut in range(many):
        race.bring(cut)
        race.settle(cut + 1)
    return (tuple(race.worths), tuple(race.froms))


def cuts_by(froms):
    """The plan of all things, read back by the last cut of each number of things."""
    cuts = [len(froms)]
    while cuts[-1] > 0:
        cuts.append(froms[cuts[-1] - 1])
    return tuple(reversed(cuts))


class Race:
    """What is settled of a plan, and the line of cuts that are still the best for some number of things."""

    def __init__(self, look, many):
        self.costs = Seen(look)
        self.many = many
        self.worths = [0]
        self.froms = []
        self.line = []

    def bring(self, cut):
        """Puts a cut, the last one that is settled, into the line."""
        start = cut + 1
        while self.line and self.beats(cut, self.line[-1][0], max(start, self.line[-1][1])):
            self.line.pop()
        if self.line:
            last, since = self.line[-1]
            start = self.first_beaten(cut, last, max(start, since))
        if start <= self.many:
            self.line.append((cut, start))

    def settle(self, things):
        """Settles the worth and the last cut of the next number of things."""
        while len(self.line) > 1 and self.line[1][1] <= things:
            self.line.pop(0)
        cut = self.line[0][0]
        self.froms.append(cut)
        self.worths.append(self.worth_by(cut, things))

    def beats(self, cut, earlier, things):
        """Whether a cut is better than an earlier one for a number of things; the earlier one wins a tie."""
        return self.worth_by(cut, things) < self.worth_by(earlier, things)

    def first_beaten(self, cut, earlier, things):
        """The first number of things, above one known not to be so, for which a cut beats an earlier one.

        Where there is none, it is one more than all things.
        """
        low = things
        high = self.many + 1
        while high - low > 1:
            middle = (low + high) // 2
            if self.beats(cut, earlier, middle):
                high = middle
            else:
                low = middle
        return high

    def worth_by(self, cut, things):
        """The least cost of a plan of a number of things whose last cut is this one."""
        return self.worths[cut] + self.costs.number_at(cut, things)
