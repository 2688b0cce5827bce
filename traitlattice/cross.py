"""From things to the columns they share, and from columns to the things that have them."""

from traitlattice.bits import mask_of, ones, within


def shared(rows, width, group):
    """The columns that every thing of the group has; of the empty group, all columns."""
    mask = (1 << width) - 1
    for thing in ones(group):
        mask = mask & rows[thing]
    return mask


def having(rows, mask):
    """The things that have every column of the mask; of the empty mask, all things."""
    return mask_of([thing for thing, row in enumerate(rows) if within(mask, row)])


def closed(rows, width, mask):
    """The columns shared by the things that have the mask."""
    return shared(rows, width, having(rows, mask))
