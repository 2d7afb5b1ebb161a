"""Webs of knots and links, their tables, and the least ways through them."""

from bendtables.kinds import is_entries, is_row


def is_web(thing):
    """Whether anything is a web."""
    if not isinstance(thing, tuple) or len(thing) != 4:
        return False
    ins, rights, ups, outs = thing
    if not is_row(ins) or not is_row(outs):
        return False
    return are_links(rights, len(ins), len(outs) - 1) and are_links(ups, len(ins) - 1, len(outs))


def are_links(thing, rows, columns):
    """Whether anything is a tuple of so many tuples of so many links, or None for them."""
    if not isinstance(thing, tuple) or len(thing) != rows:
        return False
    return all(is_entries(line) and len(line) == columns for line in thing)


def web_table(web):
    """The least length of a way from each row to each column, None where there is none."""
    columns = [column_of(web, column) for column in range(len(web[3]))]
    return tuple(zip(*columns))


def column_of(web, column):
    """The least length of a way from each row to a column, None where there is none."""
    ins, rights, ups, outs = web
    lengths = lengths_to(web, column)
    numbers = [lengths.get((row, 0)) for row in range(len(ins))]
    return [None if number is None else start + number + outs[column] for start, number in zip(ins, numbers)]


def web_way(web, row, column):
    """The first, as texts rise, of the least ways from a row to a column, None where there is none."""
    lengths = lengths_to(web, column)
    knot = (row, 0)
    if knot not in lengths:
        return None
    letters = []
    while knot != (0, column):
        length, letter, knot = min(steps_from(web, lengths, knot))
        letters.append(letter)
    return "".join(letters)


def lengths_to(web, column):
    """The least length by links from each knot to where a column goes out, by knot; none of knots without a way."""
    lengths = {(0, column): 0}
    for row in range(len(web[0])):
        for at in range(column, -1, -1):
            steps = steps_from(web, lengths, (row, at))
            if steps:
                lengths[(row, at)] = min(steps)[0]
    return lengths


def steps_from(web, lengths, knot):
    """The links of a knot that lead on: the least length by each, its letter, the knot to which it leads."""
    # The least of them is the first of the least, too, as r is less than u.
    ins, rights, ups, outs = web
    row, column = knot
    steps = []
    if (row, column + 1) in lengths and rights[row][column] is not None:
        steps.append((rights[row][column] + lengths[(row, column + 1)], "r", (row, column + 1)))
    if (row - 1, column) in lengths and ups[row - 1][column] is not None:
        steps.append((ups[row - 1][column] + lengths[(row - 1, column)], "u", (row - 1, column)))
    return steps
