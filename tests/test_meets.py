import unittest

from tests.tables import TABLES, mixed_rows
from traitlattice.ideas import ideas
from traitlattice.meets import joining, meeting

# Its ideas: (7, 0), (3, 2), (1, 3), (6, 4), (2, 6), (0, 7).
ROWS = [0b011, 0b110, 0b100]


def lacks(rows, thing, column):
    return rows[thing] >> column & 1 == 0


def members(mask):
    return [place for place in range(100) if mask >> place & 1]


def plain_meeting(rows, width, one, other):
    things = [thing for thing in members(one[0]) if thing in members(other[0])]
    mask, paper = 0, []
    for column in range(width):
        without = [thing for thing in things if lacks(rows, thing, column)]
        if without:
            paper.append((column, min(without)))
        else:
            mask += 1 << column
    return (sum(1 << thing for thing in things), mask), paper


def plain_joining(rows, one, other):
    columns = [column for column in members(one[1]) if column in members(other[1])]
    group, paper = 0, []
    for thing in range(len(rows)):
        without = [column for column in columns if lacks(rows, thing, column)]
        if without:
            paper.append((thing, min(without)))
        else:
            group += 1 << thing
    return (group, sum(1 << column for column in columns)), paper


def some_pairs(found):
    """All pairs of a few of the ideas, the first and the last among them."""
    few = found[:: len(found) // 12 + 1] + found[-1:]
    return [(one, other) for one in few for other in few]


def all_cases():
    # The last table lies somewhat beyond the bounds.
    for rows, width in TABLES + [(mixed_rows(70, 12, 7), 12)]:
        found = ideas(rows, width)
        for one, other in some_pairs(found):
            yield rows, width, found, one, other


class Meeting(unittest.TestCase):
    def test_neither_below_the_other(self):
        self.assertEqual(
            meeting(ROWS, 3, (0b011, 0b010), (0b110, 0b100)),
            ((0b010, 0b110), [(0, 1)]),
        )
        self.assertEqual(meeting(ROWS, 3, (0b001, 0b011), (0b110, 0b100)), ((0, 0b111), []))

    def test_one_below_the_other(self):
        wanted = ((0b011, 0b010), [(0, 1), (2, 0)])
        self.assertEqual(meeting(ROWS, 3, (0b011, 0b010), (0b111, 0)), wanted)
        self.assertEqual(meeting(ROWS, 3, (0b111, 0), (0b011, 0b010)), wanted)

    def test_the_same_idea_twice(self):
        self.assertEqual(
            meeting(ROWS, 3, (0b111, 0), (0b111, 0)),
            ((0b111, 0), [(0, 1), (1, 2), (2, 0)]),
        )
        for rows, width in TABLES:
            for idea in ideas(rows, width):
                self.assertEqual(meeting(rows, width, idea, idea)[0], idea)

    def test_the_paper_is_empty_where_no_column_is_left_out(self):
        self.assertEqual(meeting([], 0, (0, 0), (0, 0)), ((0, 0), []))
        self.assertEqual(meeting([], 10, (0, 1023), (0, 1023)), ((0, 1023), []))
        self.assertEqual(meeting([0, 0], 0, (3, 0), (3, 0)), ((3, 0), []))
        self.assertEqual(meeting([3, 3], 2, (3, 3), (3, 3)), ((3, 3), []))

    def test_the_first_and_the_last_thing_that_lacks_a_column(self):
        rows = [1] + [3] * 58 + [2]
        every = ((1 << 60) - 1, 0)
        self.assertEqual(meeting(rows, 2, every, every), (every, [(0, 59), (1, 0)]))

    def test_a_thing_outside_the_group_is_not_told(self):
        rows = [0b00, 0b01, 0b01]
        self.assertEqual(meeting(rows, 2, (0b110, 0b01), (0b111, 0)), ((0b110, 0b01), [(1, 1)]))

    def test_against_the_plain_words(self):
        for rows, width, found, one, other in all_cases():
            told = meeting(rows, width, one, other)
            self.assertEqual(told, plain_meeting(rows, width, one, other))
            self.assertIn(told[0], found)


class Joining(unittest.TestCase):
    def test_neither_below_the_other(self):
        self.assertEqual(
            joining(ROWS, 3, (0b001, 0b011), (0b010, 0b110)),
            ((0b011, 0b010), [(2, 1)]),
        )
        self.assertEqual(joining(ROWS, 3, (0b001, 0b011), (0b110, 0b100)), ((0b111, 0), []))

    def test_one_below_the_other(self):
        wanted = ((0b110, 0b100), [(0, 2)])
        self.assertEqual(joining(ROWS, 3, (0b110, 0b100), (0, 0b111)), wanted)
        self.assertEqual(joining(ROWS, 3, (0, 0b111), (0b110, 0b100)), wanted)

    def test_the_same_idea_twice(self):
        self.assertEqual(
            joining(ROWS, 3, (0, 0b111), (0, 0b111)),
            ((0, 0b111), [(0, 2), (1, 0), (2, 0)]),
        )
        for rows, width in TABLES:
            for idea in ideas(rows, width):
                self.assertEqual(joining(rows, width, idea, idea)[0], idea)

    def test_the_paper_is_empty_where_no_thing_is_left_out(self):
        self.assertEqual(joining([], 0, (0, 0), (0, 0)), ((0, 0), []))
        self.assertEqual(joining([], 10, (0, 1023), (0, 1023)), ((0, 1023), []))
        self.assertEqual(joining([0, 0], 0, (3, 0), (3, 0)), ((3, 0), []))
        self.assertEqual(joining([3, 3], 2, (3, 3), (3, 3)), ((3, 3), []))

    def test_the_first_and_the_last_column_that_a_thing_lacks(self):
        rows = [511] + [1023] * 58 + [1022]
        bottom = ((1 << 60) - 1 - 1 - (1 << 59), 1023)
        self.assertEqual(joining(rows, 10, bottom, bottom), (bottom, [(0, 9), (59, 0)]))

    def test_a_column_outside_the_mask_is_not_told(self):
        rows = [0b00, 0b10, 0b10]
        self.assertEqual(joining(rows, 2, (0b110, 0b10), (0, 0b11)), ((0b110, 0b10), [(0, 1)]))

    def test_against_the_plain_words(self):
        for rows, width, found, one, other in all_cases():
            told = joining(rows, width, one, other)
            self.assertEqual(told, plain_joining(rows, one, other))
            self.assertIn(told[0], found)


class Both(unittest.TestCase):
    def test_which_comes_first_is_all_the_same(self):
        for rows, width, found, one, other in all_cases():
            for ask in (meeting, joining):
                self.assertEqual(ask(rows, width, one, other), ask(rows, width, other, one))

    def test_kinds(self):
        for rows, width, found, one, other in all_cases():
            for ask in (meeting, joining):
                told = ask(rows, width, one, other)
                self.assertEqual([type(part) for part in told], [tuple, list])
                self.assertIs(type(told), tuple)
                for pair in [told[0]] + told[1]:
                    self.assertIs(type(pair), tuple)
                    self.assertEqual([type(part) for part in pair], [int, int])

    def test_the_rows_stay_as_they_were(self):
        for rows in (mixed_rows(60, 10, 9), [5, 5, 0, 2], []):
            before = list(rows)
            found = ideas(rows, 10)
            for one, other in some_pairs(found):
                meeting(rows, 10, one, other)
                joining(rows, 10, one, other)
            self.assertEqual(rows, before)

    def test_a_told_paper_is_the_askers_own(self):
        rows = list(ROWS)
        asked = [(meeting, (0b111, 0)), (joining, (0, 0b111))]
        for ask, idea in asked:
            first, kept = ask(rows, 3, idea, idea), ask(rows, 3, idea, idea)
            before = list(kept[1])
            first[1].reverse()
            first[1].append(None)
            self.assertEqual(kept[1], before)
            self.assertEqual(ask(rows, 3, idea, idea), kept)

    def test_nothing_done_later_changes_a_told_paper(self):
        rows = list(ROWS)
        told = meeting(rows, 3, (0b111, 0), (0b111, 0))
        rows[0] = 0b111
        every = (0b111, 0b100)
        self.assertEqual(meeting(rows, 3, every, every), (every, [(0, 1), (1, 2)]))
        self.assertEqual(told[1], [(0, 1), (1, 2), (2, 0)])


if __name__ == "__main__":
    unittest.main()
