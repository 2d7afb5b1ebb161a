"""A stand by point 27's words, all of it reckoned anew whenever it is asked."""

import re

from bendtables.errors import NoBack, NoFit, NoName, Ring, Taken, TooMany, Used
from tests.making import plain_product


def is_plain_name(thing):
    return type(thing) is str and re.fullmatch("[a-z]{1,8}", thing) is not None


def used_in(made):
    """The names, or what stands for them, that a table is made of itself."""
    return {"table": (), "both": made[1:3], "product": made[1:3]}.get(made[0], made[1:2])


def plain_table(mades, name):
    """What is made at once of what stands, None where it does not fit."""
    made = mades[name]
    if made[0] == "table":
        return made[1]
    parts = [plain_table(mades, used) for used in used_in(made)]
    if None in parts:
        return None
    one, other = parts[0], parts[-1]
    if made[0] == "both":
        if (len(one), len(one[0])) != (len(other), len(other[0])):
            return None
        return tuple(tuple(left + right for left, right in zip(row, under)) for row, under in zip(one, other))
    if made[0] == "over":
        return tuple(tuple(row[k] for row in one) for k in range(len(one[0])))
    if made[0] == "turned":
        return tuple(tuple(reversed(row)) for row in one)
    if made[0] == "product":
        return plain_product(one, other)[0] if len(one[0]) == len(other) else None
    if len(one) != len(one[0]):
        return None
    total = one
    for _ in range(made[2] - 1):
        total = plain_product(total, one)[0]
    return total


def reached_from(mades, names):
    """All names that these are or use, however far on."""
    found, waiting = set(), list(names)
    while waiting:
        name = waiting.pop()
        if name not in found:
            found.add(name)
            waiting += used_in(mades[name])
    return found


class PlainStand:
    """What stands, as a dict of how names are made and one of how often, behind each deed."""

    def __init__(self):
        self.history = [({}, {})]

    def now(self):
        return self.history[-1]

    def stands(self, thing):
        return type(thing) is str and thing in self.now()[0]

    def tell(self, name, made):
        mades, times = self.now()
        if not is_plain_name(name) or not all(self.stands(used) for used in used_in(made)):
            return NoName
        if name in mades:
            return Taken
        later = {**mades, name: made}
        if plain_table(later, name) is None:
            return NoFit
        if len(mades) >= 12:
            return TooMany
        self.history.append((later, {**times, name: 1}))
        return None

    def retell(self, name, made):
        mades, times = self.now()
        if not self.stands(name) or not all(self.stands(used) for used in used_in(made)):
            return NoName
        if name in reached_from(mades, used_in(made)):
            return Ring
        later = {**mades, name: made}
        anew = [other for other in later if name in reached_from(later, [other])]
        if any(plain_table(later, other) is None for other in anew):
            return NoFit
        self.history.append((later, {other: times[other] + (other in anew) for other in later}))
        return None

    def drop(self, name):
        mades, times = self.now()
        if not self.stands(name):
            return NoName
        users = [other for other in mades if name in used_in(mades[other])]
        if users:
            return (Used, users[0])
        self.history.append(tuple({other: kept[other] for other in kept if other != name} for kept in (mades, times)))
        return None

    def back(self, many):
        if not 0 <= many < len(self.history):
            return NoBack
        self.history = self.history[:many + 1]
        return None

    def deeds(self):
        return len(self.history) - 1

    def told(self):
        """All that a stand tells: deeds, names, and for each name its table, how it is made and how often it was."""
        mades, times = self.now()
        return (self.deeds(), tuple(mades), tuple((plain_table(mades, name), mades[name], times[name]) for name in mades))
