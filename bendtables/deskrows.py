"""The rows that a desk is told, read word by word; NoRow where it is none."""

from bendtables.errors import NoRow
from bendtables.tables import is_table, size_of
from bendtables.texts import is_written_number

MOST_NUMBER = 10 ** 9
MOST_POWER = 1000
MOST_LINES = 12


def words_of(text):
    """The words of a row, of anything."""
    if not isinstance(text, str):
        raise NoRow("a row is a text")
    return text.split(" ")


def parted(words, many):
    """The words, where there are so many."""
    if len(words) != many:
        raise NoRow("the row has not as many words as its kind")
    return words


def read_number(word):
    """The number of a word."""
    return read_between(word, -MOST_NUMBER, MOST_NUMBER)


def read_between(word, least, most):
    """The number of a word, from the least to the most."""
    if not is_written_number(word) or not least <= int(word) <= most:
        raise NoRow("a word is no number, or one beyond those of a row")
    return int(word)


def read_side(word):
    """The side of a word."""
    if word != "first" and word != "last":
        raise NoRow("a side is first or last")
    return word


def read_rows(words):
    """The table of the words, parted by strokes into its rows."""
    lines = " ".join(words).split(" / ")
    table = tuple(tuple([read_number(word) for word in line.split(" ")]) for line in lines)
    if not is_table(table) or max(size_of(table)) > MOST_LINES:
        raise NoRow("the rows have unlike lengths, or there are more than twelve rows or columns")
    return table


def read_made(words):
    """As what the words say a table is made; names in it are any words."""
    kind = words[0]
    if kind == "table":
        return ("table", read_rows(words[1:]))
    if kind in ("both", "product"):
        return tuple(parted(words, 3))
    if kind in ("over", "turned"):
        return tuple(parted(words, 2))
    if kind == "power":
        word, name, many = parted(words, 3)
        return ("power", name, read_between(many, 1, MOST_POWER))
    raise NoRow("a table is not made so")
