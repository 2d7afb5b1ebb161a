"""A stand: full tables by names, each made by itself or of others that stand, and made anew as these change."""

from bendtables.errors import NoBack, NoFit, NoName, Ring, Taken, TooMany, Used
from bendtables.kinds import is_number
from bendtables.otherway import turned
from bendtables.powers import power
from bendtables.products import product
from bendtables.rules import sum_of
from bendtables.tables import laid_over, size_of

MOST_NAMES = 12
LONGEST_NAME = 8


class Stand:
    """Tables by names, in the order they came, with what they were behind each deed."""

    def __init__(self):
        # There is a state behind each deed, and one ahead of all: for each name how it is made, its table, how often
        # it was made. No state is changed once it is here, so what is refused changes nothing, and back is a cut.
        self.states = [{}]

    def tell(self, name, made):
        """Brings a name; NoName, Taken, NoFit, TooMany."""
        state = self.states[-1]
        if not is_name(name):
            raise NoName("a name is one to eight letters a to z")
        refuse_unknown(state, names_in(made))
        if name in state:
            raise Taken("the name stands already")
        whole = made_of(state, made)
        if len(state) >= MOST_NAMES:
            raise TooMany("there are twelve tables")
        self.states.append({**state, name: (made, whole, 1)})

    def retell(self, name, made):
        """Makes a name otherwise, and anew all that use it; NoName, Ring, NoFit."""
        state = self.states[-1]
        refuse_unknown(state, (name,) + names_in(made))
        if any(uses(state, used, name) for used in names_in(made)):
            raise Ring("it would use itself")
        self.states.append(state_retold(state, name, made))

    def drop(self, name):
        """Takes a name away; NoName, Used where another one is made of it."""
        state = self.states[-1]
        refuse_unknown(state, (name,))
        for other in state:
            if name in names_in(state[other][0]):
                raise Used(other)
        self.states.append({other: state[other] for other in state if other != name})

    def back(self, many):
        """Takes the stand to what it was behind its first so many deeds; NoBack where there are not so many."""
        if not is_number(many) or not 0 <= many < len(self.states):
            raise NoBack("there are not so many deeds")
        self.states = self.states[:many + 1]

    def deeds(self):
        """How many deeds were done that are not gone."""
        return len(self.states) - 1

    def names(self):
        """The names, in the order they came."""
        return tuple(self.states[-1])

    def table(self, name):
        """The table of a name; NoName."""
        return known(self.states[-1], name)[1]

    def made(self, name):
        """How the table of a name is made; NoName."""
        return known(self.states[-1], name)[0]

    def times(self, name):
        """How often the table of a name was made since it came; NoName."""
        return known(self.states[-1], name)[2]


def is_name(thing):
    """Whether anything is a name."""
    return isinstance(thing, str) and 1 <= len(thing) <= LONGEST_NAME and all("a" <= sign <= "z" for sign in thing)


def known(state, name):
    """What a state has of a name, of anything; NoName where it does not stand."""
    refuse_unknown(state, (name,))
    return state[name]


def refuse_unknown(state, names):
    """NoName where one of these, which are of anything, is no name that stands."""
    for name in names:
        if not isinstance(name, str) or name not in state:
            raise NoName("there is no such name")


def names_in(made):
    """The names that a table is made of."""
    if made[0] == "table":
        return ()
    return made[1:3] if made[0] in ("both", "product") else made[1:2]


def made_of(state, made):
    """The table that is made so of what a state has; NoFit."""
    kind = made[0]
    if kind == "table":
        return made[1]
    one = state[made[1]][1]
    if kind == "both":
        return fitting_sum(one, state[made[2]][1])
    if kind == "product":
        return product(one, state[made[2]][1])
    if kind == "power":
        return power(one, made[2])
    return laid_over(one) if kind == "over" else turned(one)


def fitting_sum(one, other):
    """The sum of two tables; NoFit where they are not of one size."""
    if size_of(one) != size_of(other):
        raise NoFit("the tables are not of one size")
    return sum_of(one, other)


def uses(state, one, other):
    """Whether the table of a name uses that of another, however far on, or is it."""
    waiting = [one]
    seen = {}
    while waiting:
        name = waiting.pop()
        if name == other:
            return True
        if name not in seen:
            seen[name] = True
            waiting.extend(names_in(state[name][0]))
    return False


def state_retold(state, name, made):
    """A state in which a name is made otherwise, and all that use it, however far on, are made anew; NoFit."""
    later = {**state, name: (made,) + state[name][1:]}
    waiting = [other for other in state if uses(state, other, name)]
    while waiting:
        # As there is no ring, one of those that wait is made of none that waits.
        ready = [other for other in waiting if not any(used in waiting for used in names_in(later[other][0]))]
        for other in ready:
            way, whole, many = later[other]
            later[other] = (way, made_of(later, way), many + 1)
        waiting = [other for other in waiting if other not in ready]
    return later
