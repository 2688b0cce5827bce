import itertools
import unittest

from tests.tables import (
    TABLES,
    closed_set,
    every_rule,
    first_unlike,
    is_broken_by,
    keeps,
    least_by_the_words,
    lies_within,
    mixed_rows,
    rows_lacking_one,
    walked,
)
from traitlattice.least import answer, least


def fewest_rules(rows, width):
    """The least count of rules that hold in the table and let just the closed sets be kept.

    A rule that holds is only made stronger where all that is closed of its ahead is
    put behind it, so no other rules need to be tried.
    """
    wanted = [closed_set(rows, width, mask) == mask for mask in range(1 << width)]
    rules = [(mask, closed_set(rows, width, mask)) for mask in range(1 << width) if not wanted[mask]]
    for many in range(len(rules) + 1):
        for chosen in itertools.combinations(rules, many):
            if [keeps(mask, chosen) for mask in range(1 << width)] == wanted:
                return many


def broken_by(rows, rule):
    return [thing for thing, row in enumerate(rows) if is_broken_by(row, rule)]


def some_rules(rows, width):
    """Every rule of a narrow table; of a wide one some that hold and some that don't."""
    if width <= 4:
        return every_rule(width)
    sides = mixed_rows(60, width, len(rows))
    rules = list(zip(sides, reversed(sides)))
    rules += [(one & other, closed_set(rows, width, one & other)) for one, other in rules]
    return rules + [(0, 0), (0, (1 << width) - 1), ((1 << width) - 1, 0)]


class Least(unittest.TestCase):
    def test_no_rows(self):
        self.assertEqual(least([], 0), [])
        self.assertEqual(least([], 1), [(0, 1)])
        self.assertEqual(least([], 10), [(0, 1023)])

    def test_no_columns(self):
        self.assertEqual(least([0], 0), [])
        self.assertEqual(least([0] * 60, 0), [])

    def test_by_hand(self):
        # 0b101 is not closed either, but holds 0b001 without all that is closed of it.
        self.assertEqual(least([0b011, 0b110, 0b100], 3), [(0b001, 0b010)])

    def test_a_start_that_holds_other_starts(self):
        self.assertEqual(
            least([0b0011, 0b0100, 0], 4),
            [(0b0001, 0b0010), (0b0010, 0b0001), (0b0111, 0b1000), (0b1000, 0b0111)],
        )

    def test_things_that_have_all_or_nothing(self):
        self.assertEqual(least([1023] * 60, 10), [(0, 1023)])
        self.assertEqual(least([0], 2), [(0b01, 0b10), (0b10, 0b01)])
        self.assertEqual(least([0] * 60, 10), [(1 << place, 1023 - (1 << place)) for place in range(10)])

    def test_no_rule_where_every_set_is_closed(self):
        self.assertEqual(least(rows_lacking_one(60, 10), 10), [])
        self.assertEqual(least([0, 1], 1), [])

    def test_equal_rows_tell_nothing_more(self):
        for rows in ([0b011, 0b110], [0b001, 0b010, 0b100], mixed_rows(9, 3, 8)):
            self.assertEqual(least(rows * 6, 3), least(rows, 3))

    def test_every_set_by_the_words(self):
        for rows, width in TABLES:
            wanted = least_by_the_words(rows, width)
            self.assertIsNone(first_unlike(least(rows, width), wanted))

    def test_rising_starts_and_no_column_on_both_sides(self):
        for rows, width in TABLES:
            told = least(rows, width)
            starts = [start for start, rest in told]
            self.assertEqual(starts, sorted(set(starts)))
            for start, rest in told:
                self.assertEqual(start & rest, 0)
                self.assertNotEqual(rest, 0)

    def test_each_rule_holds(self):
        for rows, width in TABLES:
            for rule in least(rows, width):
                self.assertEqual(broken_by(rows, rule), [])

    def test_just_the_closed_sets_keep_all_the_rules(self):
        # So every rule that holds has a paper from the row.
        for rows, width in TABLES:
            rules = least(rows, width)
            for mask in range(1 << width):
                self.assertIs(keeps(mask, rules), closed_set(rows, width, mask) == mask)

    def test_no_list_of_fewer_rules_does(self):
        for chosen in range(1 << 8):
            rows = [row for row in range(8) if chosen >> row & 1]
            self.assertEqual(len(least(rows, 3)), fewest_rules(rows, 3))

    def test_somewhat_beyond_the_bounds(self):
        for rows, width in ((mixed_rows(70, 11, 7), 11), ([], 12)):
            wanted = least_by_the_words(rows, width)
            self.assertIsNone(first_unlike(least(rows, width), wanted))

    def test_no_rule_can_be_left_out(self):
        for rows, width in TABLES:
            rules = least(rows, width)
            for place, rule in enumerate(rules):
                rest = rules[:place] + rules[place + 1 :]
                mask, before = rule[0], None
                while mask != before:
                    before = mask
                    for ahead, behind in rest:
                        if lies_within(ahead, mask):
                            mask |= behind
                self.assertFalse(lies_within(rule[1], mask))

    def test_kinds(self):
        for rows, width in TABLES:
            told = least(rows, width)
            self.assertIs(type(told), list)
            for rule in told:
                self.assertIs(type(rule), tuple)
                self.assertEqual([type(side) for side in rule], [int, int])


class Answer(unittest.TestCase):
    def test_follows(self):
        rows = [0b011, 0b110, 0b100]
        self.assertEqual(answer(rows, 3, (0b001, 0b010)), ("follows", [0]))

    def test_broken(self):
        rows = [0b111, 0b011, 0b001, 0b011]
        self.assertEqual(answer(rows, 3, (0b010, 0b100)), ("broken", 1))
        self.assertEqual(answer(rows, 3, (0b001, 0b010)), ("broken", 2))
        self.assertEqual(answer([0], 1, (0, 1)), ("broken", 0))
        self.assertEqual(answer([3] * 59 + [1], 2, (1, 2)), ("broken", 59))

    def test_nothing_is_needed_where_behind_lies_within_ahead(self):
        for rows, width in TABLES:
            full = (1 << width) - 1
            self.assertEqual(answer(rows, width, (0, 0)), ("follows", []))
            self.assertEqual(answer(rows, width, (full, full)), ("follows", []))
            self.assertEqual(answer(rows, width, (full, full >> 1)), ("follows", []))

    def test_no_rows(self):
        self.assertEqual(answer([], 0, (0, 0)), ("follows", []))
        self.assertEqual(answer([], 10, (0, 1023)), ("follows", [0]))
        self.assertEqual(answer([], 10, (512, 1)), ("follows", [0]))

    def test_a_paper_of_several_steps(self):
        rows = [0b0000, 0b1000, 0b1100, 0b1110, 0b1111]
        rule = (0b0001, 0b1000)
        told = answer(rows, 4, rule)
        self.assertEqual(told[0], "follows")
        self.assertTrue(walked(least(rows, 4), rule, told[1]))

    def test_each_rule(self):
        for rows, width in TABLES:
            row = least(rows, width)
            for rule in some_rules(rows, width):
                things = broken_by(rows, rule)
                told = answer(rows, width, rule)
                if things:
                    self.assertEqual(told, ("broken", min(things)))
                else:
                    self.assertEqual(told[0], "follows")
                    self.assertTrue(walked(row, rule, told[1]), (rows, rule, told))

    def test_kinds(self):
        for rule, kinds in (((0b001, 0b010), [str, list]), ((0b010, 0b001), [str, int])):
            told = answer([0b011, 0b110, 0b100], 3, rule)
            self.assertIs(type(told), tuple)
            self.assertEqual([type(part) for part in told], kinds)


class Kept(unittest.TestCase):
    def test_the_rows_stay_as_they_were(self):
        for rows in (mixed_rows(60, 10, 9), [5, 5, 0, 2], []):
            before = list(rows)
            least(rows, 10)
            answer(rows, 10, (0, 0))
            answer(rows, 10, (0, 1))
            answer(rows, 10, (1022, 1023))
            self.assertEqual(rows, before)

    def test_a_told_list_is_the_askers_own(self):
        rows = mixed_rows(12, 6, 3)
        first, kept = least(rows, 6), least(rows, 6)
        before = list(kept)
        first.reverse()
        first.append(None)
        first[0] = None
        self.assertEqual(kept, before)
        self.assertEqual(least(rows, 6), before)
        for rule in before:
            self.assertTrue(walked(before, rule, answer(rows, 6, rule)[1]))

    def test_a_told_paper_is_the_askers_own(self):
        for rows, rule, wanted in (([], (0, 3), [0]), ([], (3, 3), [])):
            told = answer(rows, 2, rule)
            told[1].append(9)
            self.assertEqual(answer(rows, 2, rule), ("follows", wanted))
            self.assertEqual(least(rows, 2), [(0, 3)])

    def test_nothing_done_later_changes_a_told_list(self):
        rows = [0b01]
        told = least(rows, 2)
        rows.append(0b10)
        self.assertEqual(least(rows, 2), [])
        self.assertEqual(told, [(0, 0b01)])


if __name__ == "__main__":
    unittest.main()
