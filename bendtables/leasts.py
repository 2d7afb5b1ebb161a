"""The least places of any table."""


def least_places(table, side):
    """The column of each row's least number, the first or the last of several; None where a row has none."""
    return tuple(least_place(row, side) for row in table)


def least_place(row, side):
    """The column of a row's least number, or None."""
    place = None
    for column, number in enumerate(row):
        if number is None:
            continue
        if place is None or number < row[place] or (number == row[place] and side == "last"):
            place = column
    return place
