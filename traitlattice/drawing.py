"""The drawing of a table's ideas: which lie right above which, and on which row each stands."""

from traitlattice.bits import within


def lies_below(one, other):
    """Whether the first idea lies below the other one."""
    return one != other and within(one[0], other[0])


def right_above(found, low):
    """The places of the ideas above the one at place low with none between, the least first."""
    # More things share fewer columns: so an idea above has a lesser mask and
    # stands ahead. Going back from low, all that lies between low and a place is
    # met before that place; and where there is any, one of places is among it.
    places = []
    for high in range(low - 1, -1, -1):
        if lies_below(found[low], found[high]):
            if not any([lies_below(found[place], found[high]) for place in places]):
                places.append(high)
    return sorted(places)


def covers(found):
    """The pairs (low, high) of places of ideas, low below high and none between, in order."""
    pairs = []
    for low in range(len(found)):
        pairs.extend([(low, high) for high in right_above(found, low)])
    return pairs


def levels(found):
    """For each idea 0 where it lies below none, else one more than the greatest of those above."""
    numbers = [0 for idea in found]
    # Each high stands ahead of its low, and the pairs come in the order of low:
    # so the number at high is settled when it is read.
    for low, high in covers(found):
        numbers[low] = max(numbers[low], numbers[high] + 1)
    return numbers


def drawing(found):
    """The places of the ideas row by row, each on the row of its number, the least first."""
    numbers = levels(found)
    lines = [[] for number in range(max(numbers, default=-1) + 1)]
    for place, number in enumerate(numbers):
        lines[number].append(place)
    return lines
