"""Sets as whole numbers: bit k says whether number k is in the set."""


def ones(mask):
    """The list of the members of a set, the least first."""
    return [place for place in range(mask.bit_length()) if ((mask >> place) & 1) == 1]


def mask_of(places):
    """The set of a list of places, which may come in any order and more than once."""
    mask = 0
    for place in places:
        mask = mask | (1 << place)
    return mask


def within(small, large):
    """Whether each member of small is in large."""
    return (small & large) == small


def picked(names, mask):
    """The names at the places of a set, in their order."""
    return [names[place] for place in ones(mask)]


def fits(number, many):
    """Whether a whole number, maybe below 0, is a set of members that are all less than many."""
    return 0 <= number < (1 << many)
