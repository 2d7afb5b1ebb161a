"""What the program refuses with. No class here stands under another one but BendError."""


class BendError(ValueError):
    """What all refusals stand under."""


class NoText(BendError):
    """It is not the text of a table."""


class NoFit(BendError):
    """The sizes do not fit."""


class NoPlace(BendError):
    """There is no such row or column."""


class TooMany(BendError):
    """There is no room for one more."""


class NoName(BendError):
    """It is no name, or none that stands."""


class Taken(BendError):
    """The name stands already."""


class Ring(BendError):
    """It would be made of itself."""


class NoBack(BendError):
    """There are not so many deeds to go back to."""


class NoRow(BendError):
    """It is no row that the desk takes."""


class Crooked(BendError):
    """The table does not bend: the slack at (row, column) is below 0."""

    def __init__(self, row, column):
        super().__init__(f"the slack at row {row} and column {column} is below 0")
        self.row = row
        self.column = column


class Used(BendError):
    """What was to go is used to make the table of that name."""

    def __init__(self, name):
        super().__init__(f"it is used to make {name}")
        self.name = name
