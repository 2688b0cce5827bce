import unittest

from tests.tables import (
    TABLES,
    first_unlike,
    ideas_by_the_words,
    mixed_rows,
    rows_lacking_one,
    things_with,
)
from traitlattice.ideas import ideas


def columns_of(rows, width, group):
    columns = (1 << width) - 1
    for thing, row in enumerate(rows):
        if group >> thing & 1:
            columns &= row
    return columns


class ByHand(unittest.TestCase):
    def test_no_rows(self):
        self.assertEqual(ideas([], 0), [(0, 0)])
        self.assertEqual(ideas([], 1), [(0, 1)])
        self.assertEqual(ideas([], 10), [(0, 1023)])

    def test_no_columns(self):
        self.assertEqual(ideas([0], 0), [(1, 0)])
        self.assertEqual(ideas([0] * 60, 0), [((1 << 60) - 1, 0)])

    def test_a_thing_that_has_all_or_nothing(self):
        self.assertEqual(ideas([0b11], 2), [(1, 0b11)])
        self.assertEqual(ideas([0], 2), [(1, 0), (0, 0b11)])

    def test_equal_rows(self):
        self.assertEqual(ideas([0b10] * 3, 2), [(0b111, 0b10), (0, 0b11)])
        self.assertEqual(
            ideas([0b01, 0b10, 0b01], 2),
            [(0b111, 0), (0b101, 0b01), (0b010, 0b10), (0, 0b11)],
        )

    def test_a_small_table(self):
        self.assertEqual(
            ideas([0b011, 0b110, 0b100], 3),
            [
                (0b111, 0b000),
                (0b011, 0b010),
                (0b001, 0b011),
                (0b110, 0b100),
                (0b010, 0b110),
                (0b000, 0b111),
            ],
        )

    def test_as_many_as_can_be(self):
        told = ideas(rows_lacking_one(60, 10), 10)
        masks = [mask for group, mask in told]
        self.assertIsNone(first_unlike(masks, list(range(1024))))


class EveryTable(unittest.TestCase):
    def test_none_is_missing_and_none_is_too_many(self):
        for rows, width in TABLES:
            with self.subTest(rows=rows, width=width):
                wanted = ideas_by_the_words(rows, width)
                self.assertIsNone(first_unlike(ideas(rows, width), wanted))

    def test_each_once_by_rising_masks(self):
        for rows, width in TABLES:
            masks = [mask for group, mask in ideas(rows, width)]
            self.assertIsNone(first_unlike(masks, sorted(set(masks))))

    def test_each_pair_is_right_both_ways(self):
        for rows, width in TABLES:
            for group, mask in ideas(rows, width):
                self.assertEqual(group, things_with(rows, mask))
                self.assertEqual(mask, columns_of(rows, width, group))

    def test_kinds(self):
        for rows, width in TABLES:
            told = ideas(rows, width)
            self.assertIs(type(told), list)
            for idea in told:
                self.assertIs(type(idea), tuple)
                self.assertEqual([type(part) for part in idea], [int, int])


class Kept(unittest.TestCase):
    def test_the_rows_stay_as_they_were(self):
        for rows in (mixed_rows(60, 10, 9), [5, 5, 0, 2], []):
            before = list(rows)
            ideas(rows, 10)
            self.assertEqual(rows, before)

    def test_a_told_list_is_the_askers_own(self):
        rows = [0b01, 0b10]
        first = ideas(rows, 2)
        kept = list(first)
        second = ideas(rows, 2)
        first.reverse()
        first.append((9, 9))
        first[0] = None
        self.assertEqual(second, kept)
        self.assertEqual(ideas(rows, 2), kept)

    def test_nothing_done_later_changes_a_told_list(self):
        rows = [0b01, 0b10]
        told = ideas(rows, 2)
        kept = list(told)
        rows[0] = 0b11
        rows.append(0b11)
        self.assertEqual(ideas(rows, 2), [(0b111, 0b10), (0b101, 0b11)])
        self.assertEqual(told, kept)


if __name__ == "__main__":
    unittest.main()
