import unittest

from tests.sheets import thing_names, told_by
from tests.tables import mixed_rows
from traitlattice.errors import TooLarge, Twice, Unlike
from traitlattice.joins import beside, upon
from traitlattice.sheet import Table


def names(many, first):
    return [first + str(place) for place in range(many)]


def table_with(many, width, seed, thing="t", column="c"):
    return Table(names(many, thing), names(width, column), mixed_rows(many, width, seed))


class JoinCase(unittest.TestCase):
    def assert_told(self, call, one, other, wanted):
        before = told_by(one), told_by(other)
        table = call(one, other)
        self.assertIsInstance(table, Table)
        self.assertEqual(told_by(table), wanted)
        self.assertEqual((told_by(one), told_by(other)), before)

    def assert_refused(self, error, call, one, other):
        """The tables are refused, and both are as they were."""
        before = told_by(one), told_by(other)
        with self.assertRaises(error) as taken:
            call(one, other)
        if error is not Unlike:
            self.assertEqual(taken.exception.line, 0)
            self.assertIs(type(taken.exception.line), int)
        self.assertEqual((told_by(one), told_by(other)), before)

    def assert_both_ways_refused(self, error, call, one, other):
        self.assert_refused(error, call, one, other)
        self.assert_refused(error, call, other, one)

    def assert_the_askers_own(self, call, one, other):
        """What is done to told lists changes no answer, and the tables share nothing."""
        first = told_by(one), told_by(other)
        joined = call(one, other)
        wanted, kept = told_by(joined), told_by(joined)
        for table in (joined, one, other, call(one, other)):
            for told in told_by(table):
                told.reverse()
                told.append(None)
        self.assertEqual(told_by(joined), wanted)
        self.assertEqual(kept, wanted)
        self.assertEqual((told_by(one), told_by(other)), first)
        self.assertEqual(told_by(call(one, other)), wanted)


# Lists that are not the same as ["a", "b", "c"].
OTHERS = [
    ["a", "b", "c", "d"],
    ["d", "a", "b", "c"],
    ["a", "b"],
    ["b", "c"],
    [],
    ["a", "b", "d"],
    ["d", "b", "c"],
    ["b", "a", "c"],
    ["c", "b", "a"],
    ["b", "c", "a"],
]


class Beside(JoinCase):
    def test_by_hand(self):
        one = Table(["a", "b"], ["x", "y.4"], [0b01, 0b11])
        other = Table(["a", "b"], ["z", "w", "v"], [0b110, 0b001])
        self.assert_told(beside, one, other, (["a", "b"], ["x", "y.4", "z", "w", "v"], [0b11001, 0b00111]))
        self.assert_told(beside, other, one, (["a", "b"], ["z", "w", "v", "x", "y.4"], [0b01110, 0b11001]))

    def test_no_things(self):
        one, other = Table([], ["x"], []), Table([], ["y", "z"], [])
        self.assert_told(beside, one, other, ([], ["x", "y", "z"], []))
        self.assert_told(beside, Table([], [], []), Table([], [], []), ([], [], []))

    def test_no_columns(self):
        bare, other = Table(["a", "b"], [], [0, 0]), Table(["a", "b"], ["y", "z"], [2, 3])
        self.assert_told(beside, bare, other, (["a", "b"], ["y", "z"], [2, 3]))
        self.assert_told(beside, other, bare, (["a", "b"], ["y", "z"], [2, 3]))
        self.assert_told(beside, bare, bare, (["a", "b"], [], [0, 0]))

    def test_one_row_more_than_once(self):
        one, other = Table(["a", "b"], ["x"], [1, 1]), Table(["a", "b"], ["y"], [1, 1])
        self.assert_told(beside, one, other, (["a", "b"], ["x", "y"], [3, 3]))

    def test_ten_columns_go_and_eleven_do_not(self):
        for width in range(11):
            for many in (0, 3, 60):
                one, other = table_with(many, width, 1, column="x"), table_with(many, 10 - width, 2, column="y")
                rows = [left + (right << width) for left, right in zip(one.rows(), other.rows())]
                wanted = (names(many, "t"), names(width, "x") + names(10 - width, "y"), rows)
                self.assert_told(beside, one, other, wanted)
                self.assert_refused(TooLarge, beside, one, table_with(many, 11 - width, 2, column="y"))
        self.assert_refused(TooLarge, beside, table_with(2, 10, 1, column="x"), table_with(2, 10, 1, column="y"))

    def test_unlike_things(self):
        one = Table(["a", "b", "c"], ["x"], [0, 1, 0])
        for things in OTHERS:
            other = Table(things, ["y"], [1] * len(things))
            self.assert_both_ways_refused(Unlike, beside, one, other)

    def test_a_columns_name_in_both(self):
        one = Table(["a"], ["x", "y", "z"], [0b101])
        for columns in (["x"], ["y"], ["z"], ["w", "x"], ["z", "w"], ["v", "y", "w"], ["x", "y", "z"]):
            self.assert_both_ways_refused(Twice, beside, one, Table(["a"], columns, [1]))
        self.assert_refused(Twice, beside, one, one)
        self.assert_refused(Twice, beside, Table([], ["x"], []), Table([], ["x"], []))

    def test_names_that_are_nearly_the_same(self):
        one, other = Table(["a"], ["x", "size.4"], [1]), Table(["a"], ["xx", "size.40", "size", "a"], [1])
        self.assert_told(beside, one, other, (["a"], ["x", "size.4", "xx", "size.40", "size", "a"], [0b000101]))

    def test_more_than_one_fault(self):
        large = table_with(2, 10, 1)
        self.assert_both_ways_refused(Unlike, beside, large, table_with(3, 10, 1))
        self.assert_both_ways_refused(Unlike, beside, large, table_with(3, 1, 1))
        self.assert_both_ways_refused(Unlike, beside, large, table_with(3, 10, 1, column="d"))
        self.assert_both_ways_refused(Unlike, beside, table_with(2, 1, 1), table_with(2, 1, 1, thing="u"))
        self.assert_both_ways_refused(Twice, beside, large, table_with(2, 1, 1))
        self.assert_both_ways_refused(Twice, beside, large, large)
        self.assert_both_ways_refused(TooLarge, beside, large, table_with(2, 1, 1, column="d"))

    def test_told_lists_are_the_askers_own(self):
        self.assert_the_askers_own(beside, table_with(4, 3, 1, column="x"), table_with(4, 5, 2, column="y"))
        self.assert_the_askers_own(beside, table_with(4, 3, 1), table_with(4, 0, 2))

    def test_three_tables(self):
        one, two, three = [table_with(7, 3, seed, column=name) for seed, name in enumerate("xyz")]
        self.assertEqual(told_by(beside(beside(one, two), three)), told_by(beside(one, beside(two, three))))


class Upon(JoinCase):
    def test_by_hand(self):
        one = Table(["a", "b"], ["x", "y.4"], [0b01, 0b11])
        other = Table(["d", "c", "e"], ["x", "y.4"], [0b10, 0b01, 0b00])
        self.assert_told(upon, one, other, (["a", "b", "d", "c", "e"], ["x", "y.4"], [1, 3, 2, 1, 0]))
        self.assert_told(upon, other, one, (["d", "c", "e", "a", "b"], ["x", "y.4"], [2, 1, 0, 1, 3]))

    def test_no_things(self):
        bare, other = Table([], ["x", "y"], []), Table(["a", "b"], ["x", "y"], [2, 3])
        self.assert_told(upon, bare, other, (["a", "b"], ["x", "y"], [2, 3]))
        self.assert_told(upon, other, bare, (["a", "b"], ["x", "y"], [2, 3]))
        self.assert_told(upon, bare, bare, ([], ["x", "y"], []))

    def test_no_columns(self):
        one, other = Table(["a"], [], [0]), Table(["b", "c"], [], [0, 0])
        self.assert_told(upon, one, other, (["a", "b", "c"], [], [0, 0, 0]))
        self.assert_told(upon, Table([], [], []), Table([], [], []), ([], [], []))

    def test_sixty_things_go_and_sixty_one_do_not(self):
        for many in (0, 1, 29, 30, 59, 60):
            for width in (0, 3, 10):
                one, other = table_with(many, width, 1, thing="t"), table_with(60 - many, width, 2, thing="u")
                wanted = (names(many, "t") + names(60 - many, "u"), names(width, "c"), one.rows() + other.rows())
                self.assert_told(upon, one, other, wanted)
                self.assert_refused(TooLarge, upon, one, table_with(61 - many, width, 2, thing="u"))
        self.assert_refused(TooLarge, upon, table_with(60, 2, 1, thing="t"), table_with(60, 2, 1, thing="u"))

    def test_unlike_columns(self):
        one = Table(["x"], ["a", "b", "c"], [5])
        for columns in OTHERS:
            self.assert_both_ways_refused(Unlike, upon, one, Table(["y"], columns, [0]))

    def test_a_things_name_in_both(self):
        one = Table(["x", "y", "z"], ["a"], [1, 0, 1])
        for things in (["x"], ["y"], ["z"], ["w", "x"], ["z", "w"], ["v", "y", "w"], ["x", "y", "z"]):
            self.assert_both_ways_refused(Twice, upon, one, Table(things, ["a"], [0] * len(things)))
        self.assert_refused(Twice, upon, one, one)
        self.assert_refused(Twice, upon, Table(["x"], [], [0]), Table(["x"], [], [0]))

    def test_names_that_are_nearly_the_same(self):
        one, other = Table(["x", "yy"], ["a"], [1, 0]), Table(["xx", "y", "a"], ["a"], [0, 1, 1])
        self.assert_told(upon, one, other, (["x", "yy", "xx", "y", "a"], ["a"], [1, 0, 0, 1, 1]))

    def test_more_than_one_fault(self):
        large = table_with(60, 2, 1)
        self.assert_both_ways_refused(Unlike, upon, large, table_with(60, 3, 1))
        self.assert_both_ways_refused(Unlike, upon, large, table_with(1, 3, 1))
        self.assert_both_ways_refused(Unlike, upon, large, table_with(60, 3, 1, thing="u"))
        self.assert_both_ways_refused(Unlike, upon, table_with(1, 2, 1), table_with(1, 2, 1, column="d"))
        self.assert_both_ways_refused(Twice, upon, large, table_with(1, 2, 1))
        self.assert_both_ways_refused(Twice, upon, large, large)
        self.assert_both_ways_refused(TooLarge, upon, large, table_with(1, 2, 1, thing="u"))

    def test_told_lists_are_the_askers_own(self):
        self.assert_the_askers_own(upon, table_with(4, 3, 1, thing="t"), table_with(5, 3, 2, thing="u"))
        self.assert_the_askers_own(upon, table_with(4, 3, 1), table_with(0, 3, 2))

    def test_three_tables(self):
        one, two, three = [Table(thing_names(9, name), ["a", "b"], mixed_rows(9, 2, 3)) for name in "xyz"]
        self.assertEqual(told_by(upon(upon(one, two), three)), told_by(upon(one, upon(two, three))))


class BothWays(JoinCase):
    def test_four_tables_laid_together_in_either_order(self):
        corners = [
            [Table(names(many, thing), names(width, column), mixed_rows(many, width, many + width))
             for column, width in (("x", 4), ("y", 6))]
            for thing, many in (("t", 25), ("u", 35))
        ]
        by_rows = upon(beside(*corners[0]), beside(*corners[1]))
        by_columns = beside(upon(corners[0][0], corners[1][0]), upon(corners[0][1], corners[1][1]))
        self.assertEqual(told_by(by_rows), told_by(by_columns))
        self.assertEqual((len(by_rows.things()), len(by_rows.columns())), (60, 10))


if __name__ == "__main__":
    unittest.main()
