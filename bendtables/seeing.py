"""Looks that are asked of no place twice."""


class Seen:
    """A look that keeps what it told."""

    def __init__(self, look):
        self.look = look
        self.numbers = {}

    def number_at(self, row, column):
        """The number at a place."""
        place = (row, column)
        if place not in self.numbers:
            look = self.look
            self.numbers[place] = look(row, column)
        return self.numbers[place]
