"""The least row of rules of a table, and answers from it."""

from traitlattice.cross import closed
from traitlattice.rules import breaker, first_broken, way


def next_rule(rows, width, rules, begin):
    """The rule of the least set from begin on that keeps the rules and is not closed, or None.

    Ahead of it is the set, behind it what its closed set has more.
    """
    for mask in range(begin, 1 << width):
        if first_broken(rules, mask) is None:
            full = closed(rows, width, mask)
            if full != mask:
                return (mask, full & ~mask)
    return None


def least(rows, width):
    """The rule of each start, by rising starts."""
    # A set within another one is less as a number: so when a set is tried, the
    # rules of all starts within it are there, and what is closed of each of them
    # lies within the set just where it keeps the rule.
    row = []
    rule = next_rule(rows, width, row, 0)
    while rule is not None:
        row.append(rule)
        rule = next_rule(rows, width, row, rule[0] + 1)
    return row


def answer(rows, width, rule):
    """("follows", a paper from the least row) where the rule holds, else ("broken", a thing)."""
    thing = breaker(rows, rule)
    if thing is not None:
        return ("broken", thing)
    return ("follows", way(least(rows, width), rule))
