"""A book that keeps a table and its ideas while things and columns come and go."""

from traitlattice.bits import fits
from traitlattice.bounds import MOST_COLUMNS, MOST_THINGS
from traitlattice.errors import BadSet, OutOfPlace, TooLarge
from traitlattice.ideas import ideas


def with_column(row, width, has):
    """The row with one more column behind the last one, which it has or lacks (1 or 0)."""
    return row | (has << width)


def without_column(row, place):
    """The row without the column at the place; those behind it move down by one."""
    below = row & ((1 << place) - 1)
    return below | ((row >> (place + 1)) << place)


class Book:
    """A table that begins with no things."""

    def __init__(self, width):
        self.breadth = width
        self.known = []

    def put_thing(self, row):
        """Puts a thing behind the last one."""
        if len(self.known) >= MOST_THINGS:
            raise TooLarge(0)
        if not fits(row, self.breadth):
            raise BadSet()
        self.known.append(row)

    def take_thing(self, place):
        """Takes out the thing at the place."""
        if not 0 <= place < len(self.known):
            raise OutOfPlace()
        self.known.pop(place)

    def put_column(self, group):
        """Puts a column, which the things of the group have, behind the last one."""
        if self.breadth >= MOST_COLUMNS:
            raise TooLarge(0)
        if not fits(group, len(self.known)):
            raise BadSet()
        self.known = [
            with_column(row, self.breadth, (group >> thing) & 1) for thing, row in enumerate(self.known)
        ]
        self.breadth = self.breadth + 1

    def take_column(self, place):
        """Takes out the column at the place."""
        if not 0 <= place < self.breadth:
            raise OutOfPlace()
        self.known = [without_column(row, place) for row in self.known]
        self.breadth = self.breadth - 1

    def rows(self):
        """The rows of the things, in their order."""
        return list(self.known)

    def width(self):
        """The count of the columns."""
        return self.breadth

    def ideas(self):
        """The ideas of the table as it is now."""
        return ideas(self.known, self.breadth)
