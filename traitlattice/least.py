"""The least row of rules of a table, and answers from it."""

from traitlattice.cross import closed
from traitlattice.rules import breaker, first_broken, way


def least(rows, width):
    """The rule of each start, by rising starts."""
    # A set within another one is less as a number: so when a set is tried, the
    # rules of all starts within it are there, and what is closed of each of them
    # lies within the set just where it keeps the rule.
    row = []
    for mask in range(1 << width):
        if first_broken(row, mask) is None:
            full = closed(rows, width, mask)
            if full != mask:
                row.append((mask, full & ~mask))
    return row


def answer(rows, width, rule):
    """("follows", a paper from the least row) where the rule holds, else ("broken", a thing)."""
    thing = breaker(rows, rule)
    if thing is not None:
        return ("broken", thing)
    return ("follows", way(least(rows, width), rule))
