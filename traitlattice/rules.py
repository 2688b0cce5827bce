"""Rules (ahead, behind): whoever has all the columns of ahead has all those of behind."""

from traitlattice.bits import within


def breaks(row, rule):
    """Whether a set of columns has all of the rule's ahead, but not all of its behind."""
    return within(rule[0], row) and not within(rule[1], row)


def breaker(rows, rule):
    """The least number of a thing whose row breaks the rule, or None."""
    for thing, row in enumerate(rows):
        if breaks(row, rule):
            return thing
    return None


def holds(rows, rule):
    """Whether no row breaks the rule."""
    return breaker(rows, rule) is None


def first_broken(rules, mask):
    """The least place of a rule that the set breaks, or None where it keeps them all."""
    for place, rule in enumerate(rules):
        if breaks(mask, rule):
            return place
    return None


def grown(rules, mask):
    """The least set that holds the mask and keeps every rule."""
    # A rule may set off one that stands ahead of it: so the list is walked until
    # a whole walk puts nothing in.
    before = None
    while mask != before:
        before = mask
        for rule in rules:
            if breaks(mask, rule):
                mask = mask | rule[1]
    return mask


def way(rules, rule):
    """A paper for the rule from the list: places of rules to go by one after another; or None."""
    mask = rule[0]
    paper = []
    while not within(rule[1], mask):
        place = first_broken(rules, mask)
        if place is None:
            return None
        paper.append(place)
        mask = mask | rules[place][1]
    return paper
