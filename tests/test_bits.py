import unittest

from traitlattice.bits import fits, mask_of, ones, within

ALL = (1 << 100) - 1


class Ones(unittest.TestCase):
    def test_the_empty_set(self):
        self.assertEqual(ones(0), [])

    def test_the_first_and_the_last_member(self):
        self.assertEqual(ones(1), [0])
        self.assertEqual(ones(1 << 99), [99])
        self.assertEqual(ones((1 << 99) | 1), [0, 99])

    def test_each_single_member(self):
        for place in range(100):
            self.assertEqual(ones(1 << place), [place])

    def test_the_least_comes_first(self):
        self.assertEqual(ones(0b101101), [0, 2, 3, 5])
        self.assertEqual(ones(ALL), list(range(100)))

    def test_kinds(self):
        told = ones(0b11)
        self.assertIs(type(told), list)
        self.assertEqual([type(place) for place in told], [int, int])

    def test_a_told_list_is_the_askers_own(self):
        told = ones(0b110)
        told.append(7)
        told[0] = 50
        self.assertEqual(ones(0b110), [1, 2])
        self.assertEqual(told, [50, 2, 7])
        nothing = ones(0)
        nothing.append(1)
        self.assertEqual(ones(0), [])


class MaskOf(unittest.TestCase):
    def test_the_empty_list(self):
        self.assertEqual(mask_of([]), 0)
        self.assertIs(type(mask_of([])), int)

    def test_the_first_and_the_last_member(self):
        self.assertEqual(mask_of([0]), 1)
        self.assertEqual(mask_of([99]), 1 << 99)
        self.assertEqual(mask_of([99, 0]), (1 << 99) + 1)

    def test_any_order(self):
        self.assertEqual(mask_of([5, 0, 3, 2]), 0b101101)
        self.assertEqual(mask_of([0, 2, 3, 5]), 0b101101)
        self.assertEqual(mask_of(list(range(99, -1, -1))), ALL)

    def test_places_that_come_more_than_once(self):
        self.assertEqual(mask_of([3, 3]), 8)
        self.assertEqual(mask_of([3, 1, 3, 1, 3]), 10)
        self.assertEqual(mask_of([0] * 5 + [99] * 4), (1 << 99) + 1)

    def test_the_places_stay_as_they_were(self):
        places = [4, 1, 4, 99, 0]
        mask_of(places)
        self.assertEqual(places, [4, 1, 4, 99, 0])

    def test_back_and_forth(self):
        for mask in (0, 1, 6, 1023, 1 << 99, ALL, 0x5A5A5A5A5A5A5A5A5A5A5A5A5):
            self.assertEqual(mask_of(ones(mask)), mask)


class Within(unittest.TestCase):
    def test_both_ways_about(self):
        self.assertIs(within(0b0100, 0b0110), True)
        self.assertIs(within(0b0110, 0b0100), False)

    def test_sets_of_which_neither_lies_within_the_other(self):
        self.assertIs(within(0b0011, 0b0110), False)
        self.assertIs(within(0b0110, 0b0011), False)
        self.assertIs(within(0b0001, 0b1000), False)

    def test_a_set_lies_within_itself(self):
        for mask in (0, 1, 0b1010, 1 << 99, ALL):
            self.assertIs(within(mask, mask), True)

    def test_the_empty_set(self):
        for mask in (0, 1, 0b1010, 1 << 99, ALL):
            self.assertIs(within(0, mask), True)
            self.assertIs(within(mask, 0), mask == 0)

    def test_the_last_member(self):
        self.assertIs(within(1 << 99, ALL), True)
        self.assertIs(within(ALL, ALL >> 1), False)
        self.assertIs(within(ALL >> 1, ALL), True)

    def test_all_small_sets(self):
        for small in range(32):
            for large in range(32):
                told = within(small, large)
                self.assertIs(told, set(ones(small)) <= set(ones(large)))


class Fits(unittest.TestCase):
    def test_at_the_edges(self):
        for many in (0, 1, 3, 10, 60):
            full = (1 << many) - 1
            self.assertIs(fits(0, many), True)
            self.assertIs(fits(full, many), True)
            self.assertIs(fits(full + 1, many), False)
            self.assertIs(fits(-1, many), False)

    def test_sixty_figures(self):
        for number in (10**60 - 1, 1 << 198, -(1 << 198), 1 - 10**60):
            self.assertIs(fits(number, 10), False)
            self.assertIs(fits(number, 60), False)


if __name__ == "__main__":
    unittest.main()
