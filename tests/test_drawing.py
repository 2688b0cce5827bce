import unittest

from tests.tables import TABLES, first_unlike, mixed_rows, rows_lacking_one
from traitlattice.drawing import covers, drawing, levels
from traitlattice.ideas import ideas

# Thing 0 has columns 0 and 1, thing 1 has 1 and 2, thing 2 has 2.
SMALL = [
    (0b111, 0b000),
    (0b011, 0b010),
    (0b001, 0b011),
    (0b110, 0b100),
    (0b010, 0b110),
    (0b000, 0b111),
]

# One side is longer than the other: the last idea stands below a chain of one
# and a chain of three.
LOPSIDED = [(0b1111, 0b0000), (0b1000, 0b0001), (0b0111, 0b0010), (0b0011, 0b0110), (0b0001, 0b1110), (0, 0b1111)]


def above_by_group(found):
    """For each place the set of places whose group holds this one's and more."""
    return [
        {
            place
            for place, other in enumerate(found)
            if other != idea and idea[0] & ~other[0] == 0
        }
        for idea in found
    ]


def pairs_with_none_between(found):
    """Every pair is tried, in order, by the words of the document."""
    above = above_by_group(found)
    below = [set() for _ in found]
    for low, highs in enumerate(above):
        for high in highs:
            below[high].add(low)
    return [
        (low, high)
        for low in range(len(found))
        for high in sorted(above[low])
        if above[low].isdisjoint(below[high])
    ]


def all_found():
    for rows, width in TABLES:
        yield ideas(rows, width)


class Covers(unittest.TestCase):
    def test_by_hand(self):
        self.assertEqual(ideas([0b011, 0b110, 0b100], 3), SMALL)
        self.assertEqual(
            covers(SMALL),
            [(1, 0), (2, 1), (3, 0), (4, 1), (4, 3), (5, 2), (5, 4)],
        )

    def test_one_side_longer_than_the_other(self):
        self.assertEqual(ideas([0b1110, 0b0110, 0b0010, 0b0001], 4), LOPSIDED)
        self.assertEqual(
            covers(LOPSIDED),
            [(1, 0), (2, 0), (3, 2), (4, 3), (5, 1), (5, 4)],
        )

    def test_one_idea_alone(self):
        for rows, width in (([], 0), ([], 1), ([], 10), ([0], 0), ([0] * 60, 0), ([1023] * 60, 10)):
            self.assertEqual(covers(ideas(rows, width)), [])

    def test_two_ideas(self):
        self.assertEqual(covers([(1, 0), (0, 1)]), [(1, 0)])

    def test_a_chain(self):
        self.assertEqual(covers([(0b111, 1), (0b110, 3), (0b100, 7)]), [(1, 0), (2, 1)])

    def test_as_many_ideas_as_can_be(self):
        found = ideas(rows_lacking_one(60, 10), 10)
        wanted = [
            (low, low & ~(1 << column))
            for low in range(1024)
            for column in range(9, -1, -1)
            if low >> column & 1
        ]
        self.assertIsNone(first_unlike(covers(found), wanted))

    def test_none_is_missing_and_none_is_too_many(self):
        for found in all_found():
            self.assertIsNone(first_unlike(covers(found), pairs_with_none_between(found)))

    def test_somewhat_beyond_the_bounds(self):
        found = ideas(mixed_rows(70, 11, 7), 11)
        self.assertIsNone(first_unlike(covers(found), pairs_with_none_between(found)))

    def test_in_order_and_none_twice(self):
        for found in all_found():
            told = covers(found)
            self.assertIsNone(first_unlike(told, sorted(set(told))))

    def test_every_idea_above_is_reached_by_pairs(self):
        for found in all_found():
            right_above = [[] for _ in found]
            for low, high in covers(found):
                right_above[low].append(high)
            for low, wanted in enumerate(above_by_group(found)):
                reached, waiting = set(), [low]
                while waiting:
                    fresh = [high for high in right_above[waiting.pop()] if high not in reached]
                    reached.update(fresh)
                    waiting.extend(fresh)
                self.assertTrue(reached == wanted, (found[low], len(found)))

    def test_kinds(self):
        for found in all_found():
            told = covers(found)
            self.assertIs(type(told), list)
            for pair in told:
                self.assertIs(type(pair), tuple)
                self.assertEqual([type(place) for place in pair], [int, int])


class Levels(unittest.TestCase):
    def test_by_hand(self):
        self.assertEqual(levels(SMALL), [0, 1, 2, 1, 2, 3])

    def test_the_greatest_counts(self):
        self.assertEqual(levels(LOPSIDED), [0, 1, 1, 2, 3, 4])

    def test_one_idea_alone(self):
        self.assertEqual(levels(ideas([], 0)), [0])
        self.assertEqual(levels(ideas([], 10)), [0])
        self.assertEqual(levels(ideas([0] * 60, 0)), [0])

    def test_as_many_ideas_as_can_be(self):
        told = levels(ideas(rows_lacking_one(60, 10), 10))
        self.assertIsNone(first_unlike(told, [bin(mask).count("1") for mask in range(1024)]))

    def test_one_more_than_the_greatest_above(self):
        for found in all_found():
            told = levels(found)
            self.assertEqual(len(told), len(found))
            for place, above in enumerate(above_by_group(found)):
                wanted = 1 + max(told[other] for other in above) if above else 0
                self.assertEqual(told[place], wanted)

    def test_kinds(self):
        for found in all_found():
            told = levels(found)
            self.assertIs(type(told), list)
            self.assertEqual({type(number) for number in told}, {int})


class Drawing(unittest.TestCase):
    def test_by_hand(self):
        self.assertEqual(drawing(SMALL), [[0], [1, 3], [2, 4], [5]])
        self.assertEqual(drawing(LOPSIDED), [[0], [1, 2], [3], [4], [5]])

    def test_one_idea_alone(self):
        self.assertEqual(drawing(ideas([], 0)), [[0]])
        self.assertEqual(drawing(ideas([], 10)), [[0]])
        self.assertEqual(drawing(ideas([0] * 60, 0)), [[0]])

    def test_each_place_once_on_the_row_of_its_number(self):
        for found in all_found():
            told, numbers = drawing(found), levels(found)
            self.assertEqual(len(told), len(set(numbers)))
            self.assertIsNone(first_unlike(sorted(sum(told, [])), list(range(len(found)))))
            for number, places in enumerate(told):
                self.assertEqual({numbers[place] for place in places}, {number})

    def test_the_least_comes_first(self):
        for found in all_found():
            for places in drawing(found):
                self.assertIsNone(first_unlike(places, sorted(places)))

    def test_kinds(self):
        for found in all_found():
            told = drawing(found)
            self.assertIs(type(told), list)
            for places in told:
                self.assertIs(type(places), list)
                self.assertEqual({type(place) for place in places}, {int})


class Kept(unittest.TestCase):
    def test_the_list_of_ideas_stays_as_it_was(self):
        for found in (ideas(mixed_rows(60, 10, 9), 10), list(SMALL), ideas([], 0)):
            before = list(found)
            covers(found)
            levels(found)
            drawing(found)
            self.assertIsNone(first_unlike(found, before))

    def test_told_lists_are_the_askers_own(self):
        found = list(SMALL)
        for ask in (covers, levels, drawing):
            first, kept = ask(found), ask(found)
            first.reverse()
            first.append(None)
            first[0] = None
            self.assertEqual(ask(found), kept)

    def test_the_rows_of_a_drawing_are_the_askers_own(self):
        told = drawing(SMALL)
        for places in told:
            places.append(99)
        self.assertEqual(told, [[0, 99], [1, 3, 99], [2, 4, 99], [5, 99]])
        self.assertEqual(drawing(SMALL), [[0], [1, 3], [2, 4], [5]])

    def test_nothing_done_later_changes_a_told_list(self):
        found = list(SMALL)
        told = [covers(found), levels(found), drawing(found)]
        found.clear()
        found.append((0, 0))
        self.assertEqual(drawing(found), [[0]])
        self.assertEqual(told, [covers(SMALL), levels(SMALL), drawing(SMALL)])


if __name__ == "__main__":
    unittest.main()
