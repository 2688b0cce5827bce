"""Tables that the tests hold the program against, and what several tests ask of its answers."""


def mixed_rows(many, width, seed):
    """Rows that follow no plain pattern, the same in each run."""
    rows = []
    state = seed * 7919 + 1
    for _ in range(many):
        state = (state * 6364136223846793005 + 1442695040888963407) % (1 << 64)
        rows.append((state >> 33) % (1 << width))
    return rows


def rows_lacking_one(many, width):
    """Rows that each lack one column: such a table has as many ideas as can be."""
    return [((1 << width) - 1) & ~(1 << (thing % width)) for thing in range(many)]


def first_unlike(told, wanted):
    """The first place where two lists differ, or None.

    Told in the place of the lists: unittest takes minutes to lay two long lists
    side by side.
    """
    for place in range(max(len(told), len(wanted))):
        if told[place : place + 1] != wanted[place : place + 1]:
            return place, told[place : place + 1], wanted[place : place + 1]
    return None


def lies_within(small, large):
    return small & ~large == 0


def is_broken_by(mask, rule):
    return lies_within(rule[0], mask) and not lies_within(rule[1], mask)


def walked(rules, rule, paper):
    """Whether the paper can be walked as the document tells, up to the rule's behind."""
    mask = rule[0]
    for place in paper:
        if not 0 <= place < len(rules) or not is_broken_by(mask, rules[place]):
            return False
        mask |= rules[place][1]
    return lies_within(rule[1], mask)


def keeps(mask, rules):
    return not any(is_broken_by(mask, rule) for rule in rules)


def every_rule(width):
    sets = range(1 << width)
    return [(ahead, behind) for ahead in sets for behind in sets]


def closed_set(rows, width, mask):
    full = (1 << width) - 1
    for row in rows:
        if lies_within(mask, row):
            full &= row
    return full


def things_with(rows, mask):
    return sum(1 << thing for thing, row in enumerate(rows) if lies_within(mask, row))


def ideas_by_the_words(rows, width):
    """Every set of columns is tried, in rising order, by the words of the document."""
    masks = [mask for mask in range(1 << width) if closed_set(rows, width, mask) == mask]
    return [(things_with(rows, mask), mask) for mask in masks]


def least_by_the_words(rows, width):
    """Every set of columns is tried by the words of the document, small sets first."""
    starts = {}
    for mask in sorted(range(1 << width), key=lambda mask: bin(mask).count("1")):
        full = closed_set(rows, width, mask)
        inner = [start for start in starts if lies_within(start, mask)]
        if full != mask and all(lies_within(starts[start], mask) for start in inner):
            starts[mask] = full
    return [(start, starts[start] & ~start) for start in sorted(starts)]


# (rows, width): the edges that the document names, and tables between them.
TABLES = [
    ([], 0),
    ([0], 0),
    ([0] * 60, 0),
    ([], 1),
    ([0], 1),
    ([1], 1),
    ([], 10),
    ([0], 10),
    ([1023], 10),
    ([1023] * 60, 10),
    ([0] * 60, 10),
    ([0b011, 0b110, 0b101], 3),
    ([0b011, 0b011, 0b110, 0b011], 3),
    ([0b001, 0b011, 0b111], 3),
    ([1 << column for column in range(10)], 10),
    (rows_lacking_one(10, 10), 10),
    (rows_lacking_one(60, 10), 10),
    (mixed_rows(60, 10, 1), 10),
    (mixed_rows(60, 10, 2), 10),
    (mixed_rows(7, 10, 3), 10),
    (mixed_rows(60, 3, 4), 3),
    (mixed_rows(1, 6, 5), 6),
] + [(mixed_rows(seed % 9, 1 + seed % 6, seed), 1 + seed % 6) for seed in range(6, 60)]
