"""Tables laid together: side by side, or one on another."""

from traitlattice.bounds import MOST_COLUMNS, MOST_THINGS
from traitlattice.errors import TooLarge, Twice, Unlike
from traitlattice.sheet import Table


def names_together(first, second, most):
    """The names of the first list and then those of the second, none twice and no more than most."""
    if any([name in first for name in second]):
        raise Twice(0)
    if len(first) + len(second) > most:
        raise TooLarge(0)
    return first + second


def beside(one, other):
    """The first table's columns and then the other's, of the same things."""
    if one.things() != other.things():
        raise Unlike()
    columns = names_together(one.columns(), other.columns(), MOST_COLUMNS)
    width = len(one.columns())
    rows = [left | (right << width) for left, right in zip(one.rows(), other.rows())]
    return Table(one.things(), columns, rows)


def upon(one, other):
    """The first table's things and then the other's, with the same columns."""
    if one.columns() != other.columns():
        raise Unlike()
    things = names_together(one.things(), other.things(), MOST_THINGS)
    return Table(things, one.columns(), one.rows() + other.rows())
