import unittest

from tests.sheets import TOP, columns_by_the_words, holds_in, rows_of_a_thing, tables_of
from tests.tables import every_rule, is_broken_by, mixed_rows
from traitlattice.gaps import mending, spoiling, spread, sure


def mixed_cells(steps, many, seed):
    """Cells that follow no plain pattern, with ends at, right below and right above the steps."""
    ends = [[0, TOP] + [step + by for step in marks for by in (-1, 0, 1)] for marks in steps]
    chance = mixed_rows(2 * many * len(steps), 30, seed)
    cells = []
    for _ in range(many):
        line = []
        for choice in ends:
            pair = [choice[chance.pop() % len(choice)], choice[chance.pop() % len(choice)]]
            line.append((min(min(pair), TOP), min(max(pair), TOP)))
        cells.append(line)
    return cells


STEPS = [
    [],
    [[1]],
    [[TOP]],
    [[1], [1]],
    [[10, 40]],
    [[1, TOP]],
    [[1, 2, 3]],
    [[1], [10, 40]],
    [[10, 40], [1]],
    [[5], [1], [7]],
]

# (steps, cells): small enough that every filling that matters can be tried.
SMALL = [
    ([], []),
    ([], [[]]),
    ([], [[], [], []]),
    ([[1]], []),
    ([[1]], [[(0, 0)]]),
    ([[1]], [[(1, 1)]]),
    ([[1]], [[(0, 1)]]),
    ([[1]], [[(0, TOP)], [(0, 0)], [(TOP, TOP)]]),
    ([[10, 40]], [[(9, 10)], [(10, 39)], [(39, 40)], [(40, 41)], [(0, TOP)]]),
    ([[TOP]], [[(0, TOP - 1)], [(0, TOP)], [(TOP - 1, TOP)], [(TOP, TOP)]]),
    ([[1], [1]], [[(0, 1), (0, 1)], [(1, 1), (0, 1)], [(0, 1), (0, 0)]]),
] + [(steps, mixed_cells(steps, many, many)) for steps in STEPS for many in (1, 2, 3)]

# Too large for that, but one thing after another can be tried.
LARGE_STEPS = [
    [[1, 2, 3, 4], [10, 20, 30, 40], [7, TOP]],
    [[step] for step in (1, 2, 3, 5, 8, 13, 21, 34, 55, TOP)],
    [[1], [10, 40], [5, 6, 7], [1], [100, 10000, TOP]],
]
LARGE = [(steps, mixed_cells(steps, many, many)) for steps in LARGE_STEPS for many in (1, 2, 5, 60)]
SIDES = mixed_rows(240, 10, 4)
SOME_RULES = [(SIDES[place] & SIDES[place + 1], SIDES[place + 2]) for place in range(0, 240, 3)]
SOME_RULES += [(0, 0), (0, 1), (0, 1023), (1023, 0), (1023, 1023), (512, 1), (1, 512), (511, 512)]


def width_of(steps):
    return sum(len(marks) for marks in steps)


def all_small_cases():
    for steps, cells in SMALL:
        for rule in every_rule(width_of(steps)):
            yield steps, cells, rule


def all_large_cases():
    for steps, cells in LARGE:
        for rule in SOME_RULES:
            yield steps, cells, rule


class GapCase(unittest.TestCase):
    def assert_lies_in(self, cells, filling):
        self.assertIs(type(filling), list)
        self.assertEqual(len(filling), len(cells))
        for line, worths in zip(cells, filling):
            self.assertIs(type(worths), list)
            self.assertEqual(len(worths), len(line))
            for cell, worth in zip(line, worths):
                self.assertIs(type(worth), int)
                self.assertTrue(cell[0] <= worth <= cell[1])

    def assert_spoils(self, steps, cells, rule, filling):
        self.assert_lies_in(cells, filling)
        self.assertFalse(holds_in([columns_by_the_words(steps, worths) for worths in filling], rule))

    def assert_mends(self, steps, cells, rule, filling):
        self.assert_lies_in(cells, filling)
        self.assertTrue(holds_in([columns_by_the_words(steps, worths) for worths in filling], rule))


class Spread(unittest.TestCase):
    def test_no_traits(self):
        self.assertEqual(spread([], []), 0)

    def test_at_below_and_above_a_step(self):
        for step in (1, 2, 40, TOP - 1):
            self.assertEqual(spread([[step]], [step - 1]), 0)
            self.assertEqual(spread([[step]], [step]), 1)
            self.assertEqual(spread([[step]], [step + 1]), 1)

    def test_the_least_and_the_greatest_worth(self):
        self.assertEqual(spread([[1, 2, 3, TOP]], [0]), 0)
        self.assertEqual(spread([[1, 2, 3, TOP]], [TOP]), 0b1111)
        self.assertEqual(spread([[1, 2, 3, TOP]], [TOP - 1]), 0b0111)

    def test_a_step_more_at_each_step(self):
        steps = [[10, 20, 30, 40]]
        wanted = [(9, 0), (10, 1), (19, 1), (20, 3), (29, 3), (30, 7), (39, 7), (40, 15), (41, 15)]
        for worth, mask in wanted:
            self.assertEqual(spread(steps, [worth]), mask)

    def test_trait_by_trait(self):
        steps = [[1], [10, 40], [5, 6, 7]]
        self.assertEqual(spread(steps, [1, 0, 0]), 0b000001)
        self.assertEqual(spread(steps, [0, 10, 0]), 0b000010)
        self.assertEqual(spread(steps, [0, 40, 0]), 0b000110)
        self.assertEqual(spread(steps, [0, 0, 6]), 0b011000)
        self.assertEqual(spread(steps, [TOP, 39, 5]), 0b001011)
        self.assertEqual(spread(steps, [1, 40, 7]), 0b111111)

    def test_ten_columns(self):
        steps = [[1]] * 10
        for column in range(10):
            worths = [0] * 10
            worths[column] = 1
            self.assertEqual(spread(steps, worths), 1 << column)

    def test_against_the_plain_words(self):
        for steps in STEPS + LARGE_STEPS:
            for line in mixed_cells(steps, 60, 3):
                for worths in ([low for low, high in line], [high for low, high in line]):
                    told = spread(steps, worths)
                    self.assertEqual(told, columns_by_the_words(steps, worths))
                    self.assertIs(type(told), int)

    def test_somewhat_beyond_the_bounds(self):
        steps = [[1, 2, 3, 4, 5], [10**18]] + [[1]] * 8
        self.assertEqual(spread(steps, [5, 10**19] + [0] * 7 + [1]), 0b10000000111111)


class Sure(GapCase):
    def test_by_hand(self):
        steps = [[1], [10, 40]]
        cells = [[(1, 1), (10, 50)], [(0, 1), (12, 12)], [(0, 0), (0, TOP)]]
        self.assertIs(sure(steps, cells, (0b001, 0b010)), True)
        self.assertIs(sure(steps, cells, (0b001, 0b100)), False)
        self.assertIs(sure(steps, cells, (0b100, 0b010)), True)
        self.assertIs(sure(steps, cells, (0b100, 0b001)), False)
        self.assertIs(sure(steps, cells, (0, 0b010)), False)

    def test_no_things(self):
        for steps in STEPS:
            for rule in every_rule(width_of(steps)):
                self.assertIs(sure(steps, [], rule), True)

    def test_no_traits(self):
        for cells in ([], [[]], [[]] * 60):
            self.assertIs(sure([], cells, (0, 0)), True)

    def test_a_lower_step_comes_with_a_higher_one(self):
        self.assertIs(sure([[10, 40]], [[(0, TOP)]] * 60, (0b10, 0b01)), True)
        self.assertIs(sure([[10, 40]], [[(0, TOP)]], (0b01, 0b10)), False)
        self.assertIs(sure([[10, 40]], [[(0, 9)], [(40, TOP)]], (0b01, 0b10)), True)

    def test_every_filling_that_matters(self):
        seen = {}
        for steps, cells, rule in all_small_cases():
            wanted = all(holds_in(rows, rule) for rows in tables_of(steps, cells))
            self.assertIs(sure(steps, cells, rule), wanted)
            seen[wanted] = True
        self.assertEqual(len(seen), 2)

    def test_many_things(self):
        for steps, cells, rule in all_large_cases():
            wanted = all(holds_in(rows_of_a_thing(steps, line), rule) for line in cells)
            self.assertIs(sure(steps, cells, rule), wanted)


class Spoiling(GapCase):
    def test_by_hand(self):
        steps = [[1], [10, 40]]
        cells = [[(1, 1), (40, 50)], [(0, 1), (12, 12)]]
        self.assertEqual(spoiling(steps, cells[1:], (0b001, 0b100)), [[1, 12]])
        self.assert_spoils(steps, cells, (0b001, 0b100), spoiling(steps, cells, (0b001, 0b100)))
        self.assertIsNone(spoiling(steps, cells, (0b001, 0b010)))

    def test_no_things(self):
        for steps in STEPS:
            for rule in every_rule(width_of(steps)):
                self.assertIsNone(spoiling(steps, [], rule))

    def test_no_traits(self):
        for cells in ([], [[]], [[]] * 60):
            self.assertIsNone(spoiling([], cells, (0, 0)))

    def test_a_worth_that_is_just_the_step(self):
        self.assertEqual(spoiling([[10], [1]], [[(9, 10), (0, 0)]], (0b01, 0b10)), [[10, 0]])
        self.assertIsNone(spoiling([[10], [1]], [[(0, 9), (0, 0)]], (0b01, 0b10)))
        self.assertEqual(spoiling([[TOP], [1]], [[(0, TOP), (0, 0)]], (0b01, 0b10)), [[TOP, 0]])

    def test_a_worth_between_two_steps(self):
        for filling in (
            spoiling([[10, 20, 30]], [[(0, TOP)]], (0b001, 0b010)),
            spoiling([[10, 20, 30]], [[(11, 20)]], (0b001, 0b010)),
        ):
            self.assertTrue(10 <= filling[0][0] <= 19)
        self.assertEqual(spoiling([[10, 11]], [[(0, TOP)]], (0b01, 0b10)), [[10]])

    def test_the_first_or_the_last_of_sixty_things(self):
        for place in (0, 30, 59):
            cells = [[(1, 1), (1, 1)]] * 60
            cells[place] = [(0, 1), (0, 1)]
            filling = spoiling([[1], [1]], cells, (0b01, 0b10))
            self.assertEqual(filling, [[1, 1]] * place + [[1, 0]] + [[1, 1]] * (59 - place))

    def test_every_filling_that_matters(self):
        for steps, cells, rule in all_small_cases():
            told = spoiling(steps, cells, rule)
            if all(holds_in(rows, rule) for rows in tables_of(steps, cells)):
                self.assertIsNone(told)
            else:
                self.assert_spoils(steps, cells, rule, told)

    def test_many_things(self):
        for steps, cells, rule in all_large_cases():
            told = spoiling(steps, cells, rule)
            if all(holds_in(rows_of_a_thing(steps, line), rule) for line in cells):
                self.assertIsNone(told)
            else:
                self.assert_spoils(steps, cells, rule, told)


class Mending(GapCase):
    def test_by_hand(self):
        steps = [[1], [10, 40]]
        cells = [[(1, 1), (12, 50)], [(0, 1), (12, 12)]]
        rule = (0b001, 0b100)
        told = mending(steps, cells, rule)
        self.assert_mends(steps, cells, rule, told)
        self.assertEqual(told[1], [0, 12])
        self.assertIsNone(mending(steps, cells + [[(1, 1), (0, 39)]], rule))

    def test_no_things(self):
        for steps in STEPS:
            for rule in every_rule(width_of(steps)):
                told = mending(steps, [], rule)
                self.assertEqual(told, [])
                self.assertIs(type(told), list)

    def test_no_traits(self):
        self.assertEqual(mending([], [[]], (0, 0)), [[]])
        self.assertEqual(mending([], [[]] * 60, (0, 0)), [[]] * 60)

    def test_things_mended_in_different_ways(self):
        steps = [[1], [10]]
        cells = [[(0, 1), (0, 9)], [(1, 1), (0, 10)], [(0, 0), (9, 9)], [(1, 1), (10, 10)]]
        told = mending(steps, cells, (0b01, 0b10))
        self.assertEqual(told[0][0], 0)
        self.assertEqual(told[1], [1, 10])
        self.assertEqual(told[2:], [[0, 9], [1, 10]])

    def test_one_thing_of_sixty_that_can_not_be_mended(self):
        for place in (0, 30, 59):
            cells = [[(0, 1), (0, 1)]] * 60
            self.assert_mends([[1], [1]], cells, (0b01, 0b10), mending([[1], [1]], cells, (0b01, 0b10)))
            cells[place] = [(1, 1), (0, 0)]
            self.assertIsNone(mending([[1], [1]], cells, (0b01, 0b10)))

    def test_every_filling_that_matters(self):
        seen = {}
        for steps, cells, rule in all_small_cases():
            told = mending(steps, cells, rule)
            some = any(holds_in(rows, rule) for rows in tables_of(steps, cells))
            if some:
                self.assert_mends(steps, cells, rule, told)
            else:
                self.assertIsNone(told)
            seen[some] = True
        self.assertEqual(len(seen), 2)

    def test_many_things(self):
        for steps, cells, rule in all_large_cases():
            told = mending(steps, cells, rule)
            if all(any(not is_broken_by(row, rule) for row in rows_of_a_thing(steps, line)) for line in cells):
                self.assert_mends(steps, cells, rule, told)
            else:
                self.assertIsNone(told)


class WithoutGaps(GapCase):
    def test_the_only_filling(self):
        for steps in STEPS + LARGE_STEPS:
            cells = [[(low, low) for low, high in line] for line in mixed_cells(steps, 7, 11)]
            filling = [[low for low, high in line] for line in cells]
            rows = [columns_by_the_words(steps, worths) for worths in filling]
            full = (1 << width_of(steps)) - 1
            for rule in [(ahead & full, behind & full) for ahead, behind in SOME_RULES]:
                whole = holds_in(rows, rule)
                self.assertIs(sure(steps, cells, rule), whole)
                self.assertEqual(spoiling(steps, cells, rule), None if whole else filling)
                self.assertEqual(mending(steps, cells, rule), filling if whole else None)


class BeyondTheBounds(GapCase):
    def test_somewhat(self):
        steps = [[1, 2, 3, 4, 5], [10**18, 10**19]] + [[1]] * 5
        cells = [[(0, 5), (0, 10**20)] + [(0, 1)] * 5] * 70
        for rule in ((1 << 11, 1), (1 << 6, 1 << 5), (1 << 5, 1 << 6), (0, (1 << 12) - 1)):
            wanted = all(holds_in(rows_of_a_thing(steps, line), rule) for line in cells[:1])
            self.assertIs(sure(steps, cells, rule), wanted)
            if not wanted:
                self.assert_spoils(steps, cells, rule, spoiling(steps, cells, rule))
            self.assert_mends(steps, cells, rule, mending(steps, cells, rule))


def copied(lines):
    return [list(line) for line in lines]


class Kept(GapCase):
    def test_the_lists_stay_as_they_were(self):
        for steps, cells in SMALL + LARGE:
            before = copied(steps), copied(cells)
            full = (1 << width_of(steps)) - 1
            worths = [marks[0] for marks in steps]
            spread(steps, worths)
            self.assertEqual(worths, [marks[0] for marks in steps])
            for ahead, behind in SOME_RULES[-20:]:
                for ask in (sure, spoiling, mending):
                    ask(steps, cells, (ahead & full, behind & full))
            self.assertEqual((steps, cells), before)

    def test_told_lists_are_the_askers_own(self):
        steps = [[1], [10, 40]]
        cells = [[(1, 1), (12, 50)], [(0, 1), (12, 12)], [(0, 1), (12, 12)]]
        before = copied(steps), copied(cells)
        for ask in (spoiling, mending):
            first, kept = ask(steps, cells, (0b001, 0b100)), ask(steps, cells, (0b001, 0b100))
            wanted = copied(kept)
            first[0].append(None)
            first[0][0] = None
            self.assertEqual(first[1:], wanted[1:])
            first[1].clear()
            self.assertEqual(first[2], wanted[2])
            first.reverse()
            self.assertEqual(kept, wanted)
            self.assertEqual(ask(steps, cells, (0b001, 0b100)), wanted)
            self.assertEqual((steps, cells), before)

    def test_things_told_alike_share_no_list(self):
        line = [(0, 1), (0, 1)]
        for ask in (spoiling, mending):
            filling = ask([[1], [1]], [line] * 5, (0b01, 0b10))
            self.assertEqual(len({id(worths) for worths in filling}), 5)

    def test_an_empty_filling_is_the_askers_own(self):
        mending([[1]], [], (0, 1)).append([0])
        self.assertEqual(mending([[1]], [], (0, 1)), [])
        mending([], [[]], (0, 0))[0].append(0)
        self.assertEqual(mending([], [[]], (0, 0)), [[]])

    def test_nothing_done_later_changes_a_told_filling(self):
        steps, cells = [[1], [1]], [[(0, 1), (0, 1)], [(0, 0), (1, 1)]]
        told = [ask(steps, cells, (0b01, 0b10)) for ask in (spoiling, mending)]
        wanted = [copied(filling) for filling in told]
        cells[0][0] = (1, 1)
        cells[1].clear()
        steps[0][0] = 9
        cells.clear()
        self.assertEqual(told, wanted)


if __name__ == "__main__":
    unittest.main()
