import unittest

from tests.tables import TABLES, every_rule, is_broken_by, keeps, lies_within, mixed_rows, walked
from traitlattice.rules import breaker, grown, holds, way


def mixed_rules(many, width, seed):
    """Rules that follow no plain pattern; few columns ahead, so that many are set off."""
    sides = mixed_rows(4 * many, width, seed)
    return [
        (sides[4 * place] & sides[4 * place + 1], sides[4 * place + 2] & sides[4 * place + 3])
        for place in range(many)
    ]


def tried_one_by_one(rules, mask, width):
    """What all sets that hold the mask and keep every rule have in common."""
    common = (1 << width) - 1
    for other in range(1 << width):
        if lies_within(mask, other) and keeps(other, rules):
            common &= other
    return common


# Lists of rules and a width that they lie within.
LISTS = [
    ([], 0),
    ([], 3),
    ([(0, 0)], 0),
    ([(0, 0)] * 5, 2),
    ([(0b001, 0b010), (0b010, 0b100)], 3),
    ([(0b010, 0b100), (0b001, 0b010)], 3),
    ([(0b011, 0b011), (0b001, 0b011)], 3),
    ([(0, 0b101), (0b100, 0b010)], 3),
    ([(0b111, 0), (0b110, 0b001)], 3),
] + [(mixed_rules(seed % 7, 1 + seed % 5, seed), 1 + seed % 5) for seed in range(40)]

# Each puts in the next column, and stands in the list ahead of the one that sets it off.
BACKWARD = [(1 << column, 2 << column) for column in range(8, -1, -1)]
MANY = mixed_rules(1024, 10, 3)
MANY_ALIKE = [(1, 2)] * 1023 + [(2, 1020)]


def rules_of_steps(rows):
    """A rule for each set of ten columns that puts in one column at most, and that no row breaks."""
    rules = []
    for mask in sorted(range(1024), key=lambda mask: mask * 389 % 1024):
        lacking = 0
        for row in rows:
            if lies_within(mask, row):
                lacking |= ~row
        behind = [column for column in range(10) if not (lacking | mask) >> column & 1]
        rules.append((mask, sum(1 << column for column in behind[-1:])))
    return rules


MANY_STEPS = rules_of_steps(mixed_rows(24, 10, 5))
SOME_MASKS = [*range(0, 1024, 37), 1, 512, 1022, 1023]


class Breaker(unittest.TestCase):
    def test_by_hand(self):
        rows = [0b011, 0b111, 0b110, 0b010]
        self.assertEqual(breaker(rows, (0b001, 0b100)), 0)
        self.assertEqual(breaker(rows, (0b010, 0b100)), 0)
        self.assertEqual(breaker(rows, (0b100, 0b001)), 2)
        self.assertIsNone(breaker(rows, (0b001, 0b010)))
        self.assertIsNone(breaker(rows, (0b101, 0b010)))

    def test_at_the_first_and_at_the_last_place_and_none(self):
        self.assertEqual(breaker([1] + [3] * 59, (1, 2)), 0)
        self.assertEqual(breaker([3] * 59 + [1], (1, 2)), 59)
        self.assertIsNone(breaker([3] * 60, (1, 2)))

    def test_the_least_of_several(self):
        self.assertEqual(breaker([3, 1, 3, 1, 1], (1, 2)), 1)

    def test_no_rows(self):
        self.assertIsNone(breaker([], (0, 0)))
        self.assertIsNone(breaker([], (0, 1023)))
        self.assertIsNone(breaker([], (1, 2)))

    def test_an_empty_side(self):
        rows = [0b11, 0b01, 0b00]
        self.assertEqual(breaker(rows, (0, 0b10)), 1)
        self.assertEqual(breaker(rows, (0, 0b01)), 2)
        self.assertEqual(breaker([0], (0, 1)), 0)
        self.assertIsNone(breaker(rows, (0b11, 0)))
        self.assertIsNone(breaker(rows, (0, 0)))

    def test_sides_with_columns_in_common(self):
        rows = [0b111, 0b011, 0b001]
        self.assertIsNone(breaker(rows, (0b011, 0b011)))
        self.assertIsNone(breaker(rows, (0b011, 0b001)))
        self.assertEqual(breaker(rows, (0b011, 0b110)), 1)
        self.assertEqual(breaker(rows, (0b001, 0b011)), 2)

    def test_a_part_of_behind_is_not_enough(self):
        self.assertEqual(breaker([0b011], (0b001, 0b110)), 0)

    def test_a_part_of_ahead_is_not_enough(self):
        self.assertIsNone(breaker([0b001], (0b011, 0b100)))

    def test_against_the_plain_words(self):
        for rows, width in TABLES:
            rules = mixed_rules(40, width, width)
            if width <= 3:
                rules = every_rule(width)
            for rule in rules:
                broken_by = [thing for thing, row in enumerate(rows) if is_broken_by(row, rule)]
                told = breaker(rows, rule)
                self.assertEqual(told, min(broken_by, default=None))
                self.assertIn(type(told), (int, type(None)))


class Holds(unittest.TestCase):
    def test_by_hand(self):
        rows = [0b011, 0b111, 0b110]
        self.assertIs(holds(rows, (0b001, 0b010)), True)
        self.assertIs(holds(rows, (0b010, 0b001)), False)
        self.assertIs(holds(rows, (0, 0b010)), True)
        self.assertIs(holds(rows, (0, 0b100)), False)
        self.assertIs(holds(rows, (0b111, 0)), True)

    def test_no_rows(self):
        self.assertIs(holds([], (0, 1023)), True)

    def test_where_the_first_thing_breaks_it(self):
        self.assertIs(holds([1, 3], (1, 2)), False)

    def test_just_where_there_is_no_breaker(self):
        for rows, width in TABLES:
            for rule in mixed_rules(40, width, width + 20):
                self.assertIs(holds(rows, rule), breaker(rows, rule) is None)


class Grown(unittest.TestCase):
    def test_no_rules(self):
        for mask in (0, 1, 0b1010, 1023):
            self.assertEqual(grown([], mask), mask)

    def test_by_hand(self):
        rules = [(0b001, 0b010), (0b110, 0b001)]
        self.assertEqual(grown(rules, 0b001), 0b011)
        self.assertEqual(grown(rules, 0b110), 0b111)
        self.assertEqual(grown(rules, 0b010), 0b010)
        self.assertEqual(grown(rules, 0), 0)

    def test_rules_that_set_each_other_off_in_any_order(self):
        self.assertEqual(grown(BACKWARD, 1), 1023)
        self.assertEqual(grown(BACKWARD[::-1], 1), 1023)
        self.assertEqual(grown(BACKWARD[::2] + BACKWARD[1::2], 1), 1023)
        self.assertEqual(grown(BACKWARD, 0b10000), 0b1111110000)
        self.assertEqual(grown(BACKWARD, 0), 0)

    def test_rules_that_stand_more_than_once(self):
        self.assertEqual(grown([(1, 2)] * 4 + [(2, 4)] * 3, 1), 7)
        self.assertEqual(grown([(2, 4), (1, 2), (2, 4)], 1), 7)

    def test_an_empty_side_and_columns_in_common(self):
        self.assertEqual(grown([(0, 0b10)], 0), 0b10)
        self.assertEqual(grown([(0b11, 0)], 0b11), 0b11)
        self.assertEqual(grown([(0, 0)], 0), 0)
        self.assertEqual(grown([(0b01, 0b11)], 0b01), 0b11)

    def test_against_every_set_of_columns(self):
        for rules, width in LISTS:
            for mask in range(1 << width):
                told = grown(rules, mask)
                self.assertIs(type(told), int)
                self.assertEqual(told, tried_one_by_one(rules, mask, width))

    def test_many_rules(self):
        self.assertEqual(grown(MANY_ALIKE, 1), 1023)
        self.assertEqual(grown(MANY_ALIKE[::-1], 1), 1023)
        self.assertEqual(grown(MANY_ALIKE, 2), 1022)
        for rules in (MANY, MANY_STEPS, MANY_STEPS[::-1]):
            for mask in SOME_MASKS:
                self.assertEqual(grown(rules, mask), tried_one_by_one(rules, mask, 10))


    def test_somewhat_beyond_the_bounds(self):
        rules = [(1 << place, 2 << place) for place in range(11)] * 100
        self.assertEqual(grown(rules[::-1], 1), (1 << 12) - 1)
        self.assertEqual(grown(rules, 1 << 11), 1 << 11)
        self.assertTrue(walked(rules, (1, 1 << 11), way(rules, (1, 1 << 11))))
        self.assertEqual(breaker([1 << 12] * 70 + [1], (1, 1 << 12)), 70)


class Way(unittest.TestCase):
    def test_by_hand(self):
        rules = [(0b0100, 0b1000), (0b0001, 0b0010), (0b0010, 0b0100)]
        self.assertEqual(way(rules, (0b0001, 0b1000)), [1, 2, 0])
        self.assertEqual(way(rules, (0b0010, 0b1100)), [2, 0])
        self.assertIsNone(way(rules, (0b0010, 0b0001)))
        self.assertIsNone(way(rules, (0, 0b0001)))

    def test_empty_where_behind_lies_within_ahead(self):
        for rules in ([], [(0, 0b100)], [(0b01, 0b10)], [(0, 0)], MANY):
            self.assertEqual(way(rules, (0, 0)), [])
            self.assertEqual(way(rules, (0b11, 0b11)), [])
            self.assertEqual(way(rules, (0b11, 0b01)), [])
            self.assertEqual(way(rules, (0b11, 0)), [])
            self.assertEqual(way(rules, (1023, 1023)), [])

    def test_none_where_there_is_no_paper(self):
        self.assertIsNone(way([], (0, 1)))
        self.assertIsNone(way([], (1, 3)))
        self.assertIsNone(way([(0, 0)], (0, 1)))
        self.assertIsNone(way([(1, 2)], (2, 1)))
        self.assertIsNone(way([(3, 4)], (1, 4)))
        self.assertIsNone(way([(1, 2)] * 1024, (1, 6)))

    def test_none_where_a_part_of_behind_is_out_of_reach(self):
        self.assertIsNone(way([(0b001, 0b010)], (0b001, 0b110)))

    def test_rules_that_stand_in_the_other_order(self):
        self.assertEqual(way(BACKWARD, (1, 512)), [8, 7, 6, 5, 4, 3, 2, 1, 0])
        self.assertEqual(way(BACKWARD[::-1], (1, 512)), [0, 1, 2, 3, 4, 5, 6, 7, 8])

    def test_a_rule_that_adds_nothing_is_not_gone_by(self):
        rules = [(0b001, 0b001), (0b001, 0), (0b001, 0b010), (0b001, 0b010), (0b010, 0b100)]
        rule = (0b001, 0b100)
        self.assertTrue(walked(rules, rule, way(rules, rule)))

    def test_each_rule_against_every_set_of_columns(self):
        for rules, width in LISTS:
            full = [tried_one_by_one(rules, ahead, width) for ahead in range(1 << width)]
            for rule in every_rule(width):
                told = way(rules, rule)
                if lies_within(rule[1], full[rule[0]]):
                    self.assertTrue(walked(rules, rule, told), (rules, rule, told))
                else:
                    self.assertIsNone(told)
                if lies_within(rule[1], rule[0]):
                    self.assertEqual(told, [])

    def test_many_rules(self):
        rule = (1, 1023)
        for rules in (MANY_ALIKE, MANY_ALIKE[::-1]):
            self.assertTrue(walked(rules, rule, way(rules, rule)))
        for rules in (MANY, MANY_STEPS, MANY_STEPS[::-1]):
            for ahead in SOME_MASKS:
                full = tried_one_by_one(rules, ahead, 10)
                for behind in (1, 512, 1023, full):
                    told = way(rules, (ahead, behind))
                    if lies_within(behind, full):
                        self.assertTrue(walked(rules, (ahead, behind), told))
                    else:
                        self.assertIsNone(told)

    def test_kinds(self):
        told = way(BACKWARD, (1, 512))
        self.assertIs(type(told), list)
        self.assertEqual({type(place) for place in told}, {int})
        self.assertIs(type(way([], (1, 1))), list)


class Kept(unittest.TestCase):
    def test_the_lists_stay_as_they_were(self):
        for rules in (list(MANY), list(BACKWARD), []):
            before = list(rules)
            grown(rules, 1)
            way(rules, (1, 1023))
            self.assertTrue(rules == before)
        for rows in (mixed_rows(60, 10, 9), [5, 5, 0, 2], []):
            before = list(rows)
            breaker(rows, (1, 2))
            holds(rows, (1, 2))
            self.assertEqual(rows, before)

    def test_a_told_paper_is_the_askers_own(self):
        rules = list(BACKWARD)
        for rule in ((1, 16), (1, 1)):
            first, kept = way(rules, rule), way(rules, rule)
            before = list(kept)
            first.reverse()
            first.append(99)
            self.assertEqual(kept, before)
            self.assertEqual(way(rules, rule), before)

    def test_nothing_done_later_changes_a_told_paper(self):
        rules = [(1, 2), (2, 4)]
        told = way(rules, (1, 4))
        rules[0] = (1, 4)
        self.assertEqual(way(rules, (1, 4)), [0])
        self.assertEqual(grown(rules, 1), 5)
        self.assertEqual(told, [0, 1])


if __name__ == "__main__":
    unittest.main()
