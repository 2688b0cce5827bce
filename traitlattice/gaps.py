"""Worths, the steps that make columns of them, and cells in which a worth is not known for sure."""

from traitlattice.bits import mask_of
from traitlattice.rules import breaks


def spread(steps, worths):
    """The set of columns that a thing with these worths has."""
    reached = []
    for marks, worth in zip(steps, worths):
        reached.extend([worth >= step for step in marks])
    return mask_of([column for column, has in enumerate(reached) if has])


def steps_of(steps, mask):
    """For each trait the list of those of its steps whose columns are in the set."""
    chosen = []
    for marks in steps:
        chosen.append([step for place, step in enumerate(marks) if ((mask >> place) & 1) == 1])
        mask = mask >> len(marks)
    return chosen


def lows(line):
    """The least worth of each of a thing's cells."""
    return [cell[0] for cell in line]


def highs(line):
    """The greatest worth of each of a thing's cells."""
    return [cell[1] for cell in line]


def lows_reaching(line, wanted):
    """For each of a thing's cells the least worth that reaches the steps wanted, or else the high."""
    return [min(cell[1], max([cell[0]] + marks)) for cell, marks in zip(line, wanted)]


def spoiling(steps, cells, rule):
    """A filling in whose table the rule is broken, or None."""
    # A thing that can have all of ahead has the least other columns where each
    # worth just reaches it: so if this does not break the rule, nothing in its
    # cells does.
    wanted = steps_of(steps, rule[0])
    for thing, line in enumerate(cells):
        worths = lows_reaching(line, wanted)
        if breaks(spread(steps, worths), rule):
            filling = [lows(other) for other in cells]
            filling[thing] = worths
            return filling
    return None


def sure(steps, cells, rule):
    """Whether the rule holds in each filling's table."""
    return spoiling(steps, cells, rule) is None


def keeping(steps, line, rule):
    """Worths within a thing's cells with which it keeps the rule, or None."""
    # If it can lack a column of ahead, then with the lows; if it can have all of
    # behind, then with the highs.
    for worths in (lows(line), highs(line)):
        if not breaks(spread(steps, worths), rule):
            return worths
    return None


def mending(steps, cells, rule):
    """A filling in whose table the rule holds, or None."""
    filling = []
    for line in cells:
        worths = keeping(steps, line, rule)
        if worths is None:
            return None
        filling.append(worths)
    return filling
