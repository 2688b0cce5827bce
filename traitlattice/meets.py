"""The idea that two ideas have in common downward and upward, with papers that show it."""

from traitlattice.bits import ones
from traitlattice.cross import having, shared


def meeting(rows, width, one, other):
    """The idea with the things that are in both groups, and why its mask is no greater."""
    group = one[0] & other[0]
    mask = shared(rows, width, group)
    missing = ones(((1 << width) - 1) & ~mask)
    paper = [(column, ones(group & ~having(rows, 1 << column))[0]) for column in missing]
    return ((group, mask), paper)


def joining(rows, width, one, other):
    """The idea with the columns that are in both masks, and why its group is no greater."""
    mask = one[1] & other[1]
    group = having(rows, mask)
    missing = ones(((1 << len(rows)) - 1) & ~group)
    paper = [(thing, ones(mask & ~rows[thing])[0]) for thing in missing]
    return ((group, mask), paper)
