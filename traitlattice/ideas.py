"""The ideas of a table: things together with the columns that all of them share."""

from traitlattice.cross import having


def closed_masks(rows, width):
    """The masks that some group of things shares, the least first."""
    # The empty group shares all columns, and one more thing in a group can only
    # take columns away: so cutting by row after row meets every such mask, and
    # the other sets of columns need not be tried.
    found = {(1 << width) - 1: True}
    for row in rows:
        for mask in list(found):
            found[mask & row] = True
    return sorted(found)


def ideas(rows, width):
    """All ideas as tuples (group, mask), each once, by rising masks."""
    return [(having(rows, mask), mask) for mask in closed_masks(rows, width)]
