"""Tables as texts."""

from bendtables.errors import NoText
from bendtables.tables import is_table

# Python itself writes no number of more than 4300 figures at once, so long ones are written by pieces.
PIECE = 10 ** 60
PIECE_FIGURES = 60
MOST_FIGURES = 30


def show_table(table):
    """A table's text."""
    return "\n".join([" ".join([show_entry(number) for number in row]) for row in table])


def show_entry(number):
    """The word of a number, or of None."""
    if number is None:
        return "."
    if number < 0:
        return "-" + figures_of(-number)
    return figures_of(number)


def figures_of(number):
    """The figures of a number that is not below 0."""
    pieces = []
    while number >= PIECE:
        number, rest = divmod(number, PIECE)
        pieces.append(str(rest).zfill(PIECE_FIGURES))
    pieces.append(str(number))
    return "".join(reversed(pieces))


def read_table(text):
    """The table of a text, of anything; NoText where it is not just what is written of one."""
    if not isinstance(text, str):
        raise NoText("a table is read from a text")
    table = tuple(read_line(line) for line in text.split("\n"))
    if not is_table(table):
        raise NoText("the lines have unlike lengths")
    return table


def read_line(line):
    """The row of a line."""
    return tuple(read_entry(word) for word in line.split(" "))


def read_entry(word):
    """The number, or None, of a word."""
    if word == ".":
        return None
    if not is_written_number(word):
        raise NoText("a word is neither a number of at most thirty figures nor a point")
    return int(word)


def is_written_number(word):
    """Whether a word is a number of at most thirty figures, without noughts ahead."""
    figures = word.removeprefix("-")
    # The nought that stands alone is not below 0, so "-0" is none either.
    return are_figures(figures) and (figures[0] != "0" or word == "0")


def are_figures(text):
    """Whether a text has one to thirty figures and nothing else."""
    # Python's isdigit takes figures of other scripts, too.
    return 1 <= len(text) <= MOST_FIGURES and all(sign in "0123456789" for sign in text)
