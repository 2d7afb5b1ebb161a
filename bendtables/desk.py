"""A desk: a stand that is told rows of words and answers with words."""

from bendtables.bending import crook_of
from bendtables.deskrows import parted, read_made, read_number, read_side, words_of
from bendtables.errors import NoRow
from bendtables.going import stays_of
from bendtables.leasts import least_places
from bendtables.otherway import bend_of
from bendtables.stands import Stand
from bendtables.tables import size_of
from bendtables.texts import show_entry, show_table


class Desk:
    """A stand and what is said to it."""

    def __init__(self):
        self.stand = Stand()

    def say(self, text):
        """The answer to a row, of anything; NoRow where it is none, else as the stand refuses."""
        kind, *words = words_of(text)
        if kind in ("tell", "retell", "drop", "back"):
            do_deed(self.stand, kind, words)
            return "ok"
        if kind == "least":
            return say_least(self.stand, words)
        if kind == "entry":
            return say_entry(self.stand, words)
        if kind in ("show", "bend", "crook", "stays"):
            return say_of(kind, self.stand.table(parted(words, 1)[0]))
        raise NoRow("there is no such kind of row")


def do_deed(stand, kind, words):
    """Does what a row says, or takes back what was done."""
    if kind == "back":
        stand.back(read_number(parted(words, 1)[0]))
    elif kind == "drop":
        stand.drop(parted(words, 1)[0])
    elif len(words) < 2:
        raise NoRow("it is not said what is made, or how")
    elif kind == "tell":
        stand.tell(words[0], read_made(words[1:]))
    else:
        stand.retell(words[0], read_made(words[1:]))


def say_least(stand, words):
    """The least places of a table by a side."""
    name, word = parted(words, 2)
    side = read_side(word)
    return say_numbers(least_places(stand.table(name), side))


def say_entry(stand, words):
    """The number at a row and a column; NoRow, behind NoName, where one is not there."""
    name, *place = parted(words, 3)
    row, column = [read_number(word) for word in place]
    table = stand.table(name)
    rows, columns = size_of(table)
    if not 0 <= row < rows or not 0 <= column < columns:
        raise NoRow("the table has no such row or column")
    return show_entry(table[row][column])


def say_of(kind, table):
    """What is asked of a table alone."""
    if kind == "show":
        return show_table(table).replace("\n", " / ")
    if kind == "bend":
        return bend_of(table)
    if kind == "stays":
        return show_entry(len(stays_of(table)[0]))
    place = crook_of(table)
    return "none" if place is None else say_numbers(place)


def say_numbers(numbers):
    """Numbers as words."""
    return " ".join([show_entry(number) for number in numbers])
