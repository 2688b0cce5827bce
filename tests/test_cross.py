import unittest

from tests.tables import TABLES, mixed_rows, rows_lacking_one
from traitlattice.cross import closed, having, shared


def members(mask):
    return {place for place in range(100) if mask >> place & 1}


def plain_shared(rows, width, group):
    return {
        column
        for column in range(width)
        if all(column in members(rows[thing]) for thing in members(group))
    }


def plain_having(rows, mask):
    return {thing for thing, row in enumerate(rows) if members(mask) <= members(row)}


def some_masks(width):
    return sorted({0, (1 << width) - 1} | set(mixed_rows(12, width, width)))


def some_groups(many):
    single = {1 << thing for thing in range(many)}
    return sorted({0, (1 << many) - 1} | single | set(mixed_rows(12, min(many, 31), many)))


class Shared(unittest.TestCase):
    def test_by_hand(self):
        rows = [0b011, 0b111, 0b110]
        self.assertEqual(shared(rows, 3, 0b001), 0b011)
        self.assertEqual(shared(rows, 3, 0b011), 0b011)
        self.assertEqual(shared(rows, 3, 0b101), 0b010)
        self.assertEqual(shared(rows, 3, 0b111), 0b010)

    def test_the_empty_group_shares_all_columns(self):
        self.assertEqual(shared([0b001, 0b010], 3, 0), 0b111)
        self.assertEqual(shared([], 10, 0), 1023)
        self.assertEqual(shared([0] * 60, 10, 0), 1023)

    def test_no_columns(self):
        self.assertEqual(shared([], 0, 0), 0)
        self.assertEqual(shared([0, 0], 0, 0b11), 0)

    def test_things_without_columns_share_none(self):
        self.assertEqual(shared([0b11, 0], 2, 0b11), 0)

    def test_sixty_things(self):
        rows = [1023] * 59 + [0b1000000001]
        self.assertEqual(shared(rows, 10, (1 << 59) - 1), 1023)
        self.assertEqual(shared(rows, 10, 1 << 59), 0b1000000001)
        self.assertEqual(shared(rows, 10, (1 << 60) - 1), 0b1000000001)

    def test_against_the_plain_words(self):
        for rows, width in TABLES:
            for group in some_groups(len(rows)):
                told = shared(rows, width, group)
                self.assertIs(type(told), int)
                self.assertEqual(members(told), plain_shared(rows, width, group))


class Having(unittest.TestCase):
    def test_by_hand(self):
        rows = [0b011, 0b111, 0b110]
        self.assertEqual(having(rows, 0b001), 0b011)
        self.assertEqual(having(rows, 0b010), 0b111)
        self.assertEqual(having(rows, 0b101), 0b010)
        self.assertEqual(having([0b01, 0b10], 0b11), 0)

    def test_all_things_have_the_empty_mask(self):
        self.assertEqual(having([0b001, 0, 0b010], 0), 0b111)
        self.assertEqual(having([0] * 60, 0), (1 << 60) - 1)

    def test_no_things(self):
        self.assertEqual(having([], 0), 0)
        self.assertEqual(having([], 1023), 0)

    def test_the_same_row_more_than_once(self):
        self.assertEqual(having([0b10, 0b01, 0b10, 0b10], 0b10), 0b1101)

    def test_the_last_thing_and_the_last_column(self):
        rows = [511] * 59 + [1023]
        self.assertEqual(having(rows, 512), 1 << 59)

    def test_against_the_plain_words(self):
        for rows, width in TABLES:
            for mask in some_masks(width):
                told = having(rows, mask)
                self.assertIs(type(told), int)
                self.assertEqual(members(told), plain_having(rows, mask))


class Closed(unittest.TestCase):
    def test_by_hand(self):
        rows = [0b011, 0b111, 0b110]
        self.assertEqual(closed(rows, 3, 0), 0b010)
        self.assertEqual(closed(rows, 3, 0b001), 0b011)
        self.assertEqual(closed(rows, 3, 0b101), 0b111)

    def test_what_nothing_has_is_closed_to_all_columns(self):
        self.assertEqual(closed([0b001, 0b010], 3, 0b011), 0b111)
        self.assertEqual(closed([], 10, 0), 1023)
        self.assertEqual(closed([], 0, 0), 0)

    def test_against_the_plain_words(self):
        for rows, width in TABLES:
            for mask in some_masks(width):
                told = closed(rows, width, mask)
                group = sum(1 << thing for thing in plain_having(rows, mask))
                self.assertIs(type(told), int)
                self.assertEqual(members(told), plain_shared(rows, width, group))

    def test_it_holds_the_mask_and_is_closed_itself(self):
        for rows, width in TABLES:
            for mask in some_masks(width):
                told = closed(rows, width, mask)
                self.assertEqual(told | mask, told)
                self.assertEqual(closed(rows, width, told), told)


class Kept(unittest.TestCase):
    def test_the_rows_stay_as_they_were(self):
        for rows in (mixed_rows(60, 10, 9), rows_lacking_one(60, 10), [5, 5, 0], []):
            before = list(rows)
            shared(rows, 10, (1 << len(rows)) - 1)
            having(rows, 5)
            closed(rows, 10, 5)
            self.assertEqual(rows, before)

    def test_rows_that_are_changed_later_are_told_as_they_are_then(self):
        rows = [0b01, 0b11]
        self.assertEqual(closed(rows, 2, 0), 0b01)
        rows[0] = 0b10
        self.assertEqual(closed(rows, 2, 0), 0b10)
        self.assertEqual(having(rows, 0b10), 0b11)
        self.assertEqual(shared(rows, 2, 0b11), 0b10)


if __name__ == "__main__":
    unittest.main()
