import unittest

from tests.sheets import TOP, all_told
from traitlattice.sheet import Sheet, Table


def some_traits():
    return [("plain", "red", [1]), ("graded", "size", [10, 40]), ("graded", "plain", [1])]


def some_cells():
    return [[(1, 1), (0, TOP), (0, 1)], [(0, 1), (12, 12), (5, 7)]]


def some_sheet():
    return Sheet(some_traits(), ["apple", "pea"], some_cells())


class Sheets(unittest.TestCase):
    def test_what_it_tells(self):
        sheet = some_sheet()
        self.assertEqual(sheet.steps(), [[1], [10, 40], [1]])
        self.assertEqual(sheet.cells(), some_cells())
        self.assertEqual(sheet.things(), ["apple", "pea"])
        self.assertEqual(sheet.columns(), ["red", "size.10", "size.40", "plain.1"])
        self.assertEqual(sheet.traits(), some_traits())

    def test_no_traits_and_no_things(self):
        self.assertEqual(all_told(Sheet([], [], [])), ([], [], [], []))
        self.assertEqual(all_told(Sheet([], ["a", "b"], [[], []])), ([], [[], []], [], ["a", "b"]))
        self.assertEqual(all_told(Sheet([("plain", "a", [1])], [], [])), ([[1]], [], ["a"], []))

    def test_a_plain_traits_column(self):
        for name in ("a", "size", "abcdefgh", "graded", "thing"):
            self.assertEqual(Sheet([("plain", name, [1])], [], []).columns(), [name])

    def test_a_graded_traits_columns(self):
        for steps, names in (
            ([1], ["size.1"]),
            ([40], ["size.40"]),
            ([TOP], ["size.999999999999999999"]),
            ([1, 2, 3, 100000], ["size.1", "size.2", "size.3", "size.100000"]),
        ):
            self.assertEqual(Sheet([("graded", "size", steps)], [], []).columns(), names)

    def test_columns_trait_by_trait(self):
        traits = [("graded", "z", [3, 4]), ("plain", "b", [1]), ("graded", "a", [1, 2]), ("plain", "y", [1])]
        self.assertEqual(Sheet(traits, [], []).columns(), ["z.3", "z.4", "b", "a.1", "a.2", "y"])
        self.assertEqual(Sheet(traits, [], []).steps(), [[3, 4], [1], [1, 2], [1]])

    def test_ten_columns_and_sixty_things(self):
        traits = [("graded", name, [1, 2]) for name in "abcde"]
        things = ["thing" + "abcdefghij"[place // 10] + "abcdefghij"[place % 10] for place in range(60)]
        cells = [[(place, place + column) for column in range(5)] for place in range(60)]
        sheet = Sheet(traits, things, cells)
        self.assertEqual(sheet.things(), things)
        self.assertEqual(sheet.cells(), cells)
        self.assertEqual(len(sheet.columns()), 10)

    def test_lists_handed_in_are_copied_and_stay_as_they_were(self):
        traits, things, cells = some_traits(), ["apple", "pea"], some_cells()
        sheet = Sheet(traits, things, cells)
        wanted = all_told(sheet)
        self.assertEqual((traits, things, cells), (some_traits(), ["apple", "pea"], some_cells()))
        traits[1][2].append(50)
        traits[0] = ("plain", "blue", [1])
        traits.pop()
        things[0] = "pear"
        things.append("plum")
        cells[0][0] = (0, 0)
        cells[1].clear()
        cells.append([])
        self.assertEqual(all_told(sheet), wanted)
        self.assertEqual(sheet.traits(), some_traits())

    def test_told_lists_are_the_askers_own(self):
        sheet = some_sheet()
        wanted = all_told(some_sheet())
        for told in (sheet.steps(), sheet.cells()):
            told[0].append(None)
            told[1][0] = None
            self.assertEqual(all_told(sheet), wanted)
        for told in all_told(sheet) + (sheet.traits(),):
            told.reverse()
            told.append(None)
            told[0] = None
            self.assertEqual(all_told(sheet), wanted)
        sheet.traits()[1][2].clear()
        self.assertEqual(all_told(sheet), wanted)
        self.assertEqual(sheet.traits(), some_traits())

    def test_one_told_list_changes_no_other(self):
        sheet = some_sheet()
        kept = all_told(sheet)
        for told in all_told(sheet)[:2]:
            told[0].clear()
            told.clear()
        self.assertEqual(kept, all_told(some_sheet()))

    def test_kinds(self):
        sheet = some_sheet()
        for told in all_told(sheet):
            self.assertIs(type(told), list)
        for told in sheet.steps():
            self.assertIs(type(told), list)
            self.assertEqual({type(step) for step in told}, {int})
        for told in sheet.cells():
            self.assertIs(type(told), list)
            self.assertEqual({type(cell) for cell in told}, {tuple})
        self.assertEqual({type(name) for name in sheet.columns() + sheet.things()}, {str})


class Tables(unittest.TestCase):
    def test_what_it_tells(self):
        table = Table(["a", "b"], ["x", "y.4"], [0b01, 0b11])
        self.assertEqual(table.things(), ["a", "b"])
        self.assertEqual(table.columns(), ["x", "y.4"])
        self.assertEqual(table.rows(), [0b01, 0b11])

    def test_named_arguments(self):
        table = Table(rows=[1], things=["a"], columns=["x"])
        self.assertEqual((table.things(), table.columns(), table.rows()), (["a"], ["x"], [1]))

    def test_no_things_and_no_columns(self):
        for things, columns, rows in (([], [], []), ([], ["x"], []), (["a", "b"], [], [0, 0])):
            table = Table(things, columns, rows)
            self.assertEqual((table.things(), table.columns(), table.rows()), (things, columns, rows))

    def test_ten_columns_and_sixty_things(self):
        things = ["t" + str(place) for place in range(60)]
        columns = ["c" + str(place) for place in range(10)]
        rows = [place * 17 for place in range(60)]
        table = Table(things, columns, rows)
        self.assertEqual((table.things(), table.columns(), table.rows()), (things, columns, rows))

    def test_lists_are_copied_when_it_is_made(self):
        things, columns, rows = ["a", "b"], ["x", "y"], [1, 3]
        table = Table(things, columns, rows)
        self.assertEqual((things, columns, rows), (["a", "b"], ["x", "y"], [1, 3]))
        for handed in (things, columns, rows):
            handed.reverse()
            handed.append(None)
        self.assertEqual((table.things(), table.columns(), table.rows()), (["a", "b"], ["x", "y"], [1, 3]))

    def test_told_lists_are_the_askers_own(self):
        table = Table(["a", "b"], ["x", "y"], [1, 3])
        kept = table.things(), table.columns(), table.rows()
        for told in (table.things(), table.columns(), table.rows()):
            self.assertIs(type(told), list)
            told.reverse()
            told.append(None)
        wanted = (["a", "b"], ["x", "y"], [1, 3])
        self.assertEqual((table.things(), table.columns(), table.rows()), wanted)
        self.assertEqual(kept, wanted)


if __name__ == "__main__":
    unittest.main()
