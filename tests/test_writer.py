import unittest

from tests.sheets import (
    TOP,
    all_told,
    columns_by_the_words,
    mixed_text,
    read_by_the_words,
    refusal,
    rule_by_the_words,
    table_by_the_words,
    thing_names,
    told_by,
)
from tests.tables import every_rule, mixed_rows
from traitlattice.errors import Gap
from traitlattice.reader import read_rule, read_sheet
from traitlattice.sheet import Table
from traitlattice.writer import rule_text, table_of, written


class Written(unittest.TestCase):
    def assert_comes_back(self, text):
        sheet = read_sheet(text)
        self.assertEqual(written(sheet), text)
        self.assertIs(type(written(sheet)), str)
        self.assertEqual(all_told(sheet), all_told(read_sheet(text)))

    def test_one_line(self):
        for text in ("plain a", "graded a 1", "graded a 1 2 3 4", "thing a"):
            self.assert_comes_back(text)

    def test_no_trait(self):
        self.assert_comes_back("thing b\nthing a\nthing c")

    def test_no_thing(self):
        self.assert_comes_back("graded b 2 3\nplain a\ngraded c 1")

    def test_steps(self):
        for steps in ("1", str(TOP), "1 2", f"1 {TOP}", "9 10 11", f"{TOP - 3} {TOP - 2} {TOP - 1} {TOP}"):
            self.assert_comes_back("graded a " + steps)

    def test_names(self):
        for name in ("a", "z", "abcdefgh", "plain", "graded", "thing", "y", "n"):
            self.assert_comes_back(f"plain {name}\nthing {name} y")
            self.assert_comes_back(f"graded {name} 7\nthing {name} 6")
            self.assert_comes_back("thing " + name)

    def test_each_form_of_a_cell(self):
        for word in "yn?":
            self.assert_comes_back("plain a\nthing b " + word)
        for word in ("0", "1", "9", "10", str(TOP), "?", "0:1", "1:2", f"0:{TOP - 1}", f"1:{TOP}", f"{TOP - 1}:{TOP}"):
            self.assert_comes_back("graded a 1\nthing b " + word)
            self.assert_comes_back(f"graded a 1 {TOP}\nplain b\nthing b {word} y\nthing a {word} ?")

    def test_a_graded_trait_with_the_step_one_stays_graded(self):
        self.assert_comes_back("graded a 1\nplain b\nthing c 0:1 ?\nthing d 1 y\nthing e 0 n\nthing f ? ?")

    def test_ten_columns_and_sixty_things(self):
        things = [f"thing {name}" + " y n ? y n" * 2 for name in thing_names(60)]
        self.assert_comes_back("\n".join([f"plain {name}" for name in "jihgfedcba"] + things))
        things = [f"thing {name} {place} {place}:{place + 1} ?" for place, name in enumerate(thing_names(60))]
        self.assert_comes_back("\n".join(["graded b 1 2 3 4", "graded a 5 6 7 8", "graded c 1 2"] + things))

    def test_mixed_texts(self):
        for seed in range(300):
            self.assert_comes_back(mixed_text(seed))
            self.assert_comes_back(mixed_text(seed, most_traits=6, gaps=False))


class TableOf(unittest.TestCase):
    def test_by_hand(self):
        table = table_of(read_sheet("plain red\ngraded size 10 40\nthing apple y 40\nthing pea n 9\nthing plum y 12"))
        self.assertIsInstance(table, Table)
        self.assertEqual(table.things(), ["apple", "pea", "plum"])
        self.assertEqual(table.columns(), ["red", "size.10", "size.40"])
        self.assertEqual(table.rows(), [0b111, 0b000, 0b011])

    def test_at_below_and_above_a_step(self):
        for step in (1, 2, 40, TOP - 1):
            text = f"graded a {step}\nthing b {step - 1}\nthing c {step}\nthing d {step + 1}"
            self.assertEqual(table_of(read_sheet(text)).rows(), [0, 1, 1])
        text = f"graded a 1 {TOP}\nthing b 0\nthing c {TOP - 1}\nthing d {TOP}"
        self.assertEqual(table_of(read_sheet(text)).rows(), [0b00, 0b01, 0b11])

    def test_no_trait_and_no_thing(self):
        self.assertEqual(told_by(table_of(read_sheet("thing a\nthing b"))), (["a", "b"], [], [0, 0]))
        self.assertEqual(told_by(table_of(read_sheet("plain a\ngraded b 1 2"))), ([], ["a", "b.1", "b.2"], []))

    def test_mixed_texts(self):
        for seed in range(200):
            text = mixed_text(seed, most_traits=6, gaps=False)
            table = table_of(read_sheet(text))
            self.assertEqual(told_by(table), table_by_the_words(text))
            self.assertEqual([type(told) for told in told_by(table)], [list] * 3)
            self.assertTrue(all(type(row) is int for row in table.rows()))

    def test_ten_columns_and_sixty_things(self):
        rows = mixed_rows(60, 10, 5)
        lines = [f"plain {name}" for name in "abcdefghij"]
        for name, row in zip(thing_names(60), rows):
            lines.append(" ".join(["thing", name] + ["ny"[row >> column & 1] for column in range(10)]))
        self.assertEqual(told_by(table_of(read_sheet("\n".join(lines)))), (thing_names(60), list("abcdefghij"), rows))

    def test_told_lists_are_the_askers_own(self):
        sheet = read_sheet("plain red\ngraded size 10 40\nthing apple y 40\nthing pea n 9")
        table, wanted, before = table_of(sheet), told_by(table_of(sheet)), all_told(sheet)
        for told in told_by(table) + told_by(table_of(sheet)):
            told.reverse()
            told.append(None)
        self.assertEqual(told_by(table), wanted)
        self.assertEqual(told_by(table_of(sheet)), wanted)
        self.assertEqual(all_told(sheet), before)


class Gaps(unittest.TestCase):
    def assert_gap(self, text, thing):
        sheet = read_sheet(text)
        before = all_told(sheet)
        with self.subTest(text=text):
            with self.assertRaises(Gap) as taken:
                table_of(sheet)
            self.assertEqual(taken.exception.thing, thing)
            self.assertIs(type(taken.exception.thing), int)
        self.assertEqual(all_told(sheet), before)

    def test_each_kind_of_gap(self):
        self.assert_gap("plain a\nthing b ?", 0)
        for word in ("?", "0:1", "5:6", f"0:{TOP - 1}", f"1:{TOP}"):
            self.assert_gap("graded a 1\nthing b " + word, 0)

    def test_a_gap_that_no_column_tells(self):
        self.assert_gap("graded a 10\nthing b 3:4", 0)
        self.assert_gap("graded a 10\nthing b 10:11", 0)
        self.assert_gap(f"graded a 10 20\nthing b 10\nthing c 11:19\nthing d {TOP}", 1)

    def test_each_place(self):
        for many in (1, 2, 60):
            for place in {0, many // 2, many - 1}:
                for gap in ("? 1 n", "y 3:4 n", "n 0 ?", "? ? ?"):
                    cells = ["y 5 n"] * many
                    cells[place] = gap
                    things = [f"thing {name} {words}" for name, words in zip(thing_names(many), cells)]
                    self.assert_gap("\n".join(["plain a", "graded b 1", "plain c"] + things), place)

    def test_the_first_of_several(self):
        self.assert_gap("plain a\nplain b\nthing c y n\nthing d y ?\nthing e ? n\nthing f n n", 1)
        self.assert_gap("plain a\nplain b\nthing c y ?\nthing d ? ?\nthing e ? n\nthing f n n", 0)

    def test_mixed_texts(self):
        seen = {}
        for seed in range(200):
            text = mixed_text(seed)
            kind, traits, things = read_by_the_words(text)
            gaps = [place for place, (name, cells) in enumerate(things) if any(low != high for low, high in cells)]
            wanted = ("Gap", gaps[0]) if gaps else None
            self.assertEqual(refusal(table_of, read_sheet(text)), wanted)
            seen[wanted] = True
        self.assertGreater(len(seen), 3)


class RuleText(unittest.TestCase):
    def test_by_hand(self):
        sheet = read_sheet("plain red\ngraded size 10 40\nplain small")
        for rule, text in (
            ((0b0001, 0b0010), "red -> size.10"),
            ((0b1001, 0b0110), "red small -> size.10 size.40"),
            ((0b1111, 0b1111), "red size.10 size.40 small -> red size.10 size.40 small"),
            ((0, 0), "->"),
            ((0, 0b1000), "-> small"),
            ((0b0100, 0), "size.40 ->"),
            ((0, 0b0011), "-> red size.10"),
            ((0b0011, 0), "red size.10 ->"),
        ):
            self.assertEqual(rule_text(sheet, rule), text)
            self.assertIs(type(rule_text(sheet, rule)), str)

    def test_no_columns(self):
        self.assertEqual(rule_text(read_sheet("thing a"), (0, 0)), "->")

    def test_names_in_the_order_of_the_columns_each_once(self):
        sheet = read_sheet("plain z\ngraded m 5 10\nplain a")
        for text in ("a z m.10 z -> m.5 a a m.10 z m.5", "z a z m.10 m.10 -> a z m.10 m.5"):
            self.assertEqual(rule_text(sheet, read_rule(sheet, text)), "z m.10 a -> z m.5 m.10 a")

    def test_every_rule_is_read_again(self):
        for text in ("thing a", "plain a", "graded z 2 10\nplain b", f"graded b {TOP}\nplain c\ngraded a 1 9"):
            sheet = read_sheet(text)
            before = all_told(sheet)
            for rule in every_rule(len(sheet.columns())):
                told = rule_text(sheet, rule)
                self.assertEqual(told, rule_by_the_words(sheet.columns(), rule))
                self.assertEqual(read_rule(sheet, told), rule)
            self.assertEqual(all_told(sheet), before)

    def test_ten_columns(self):
        sheet = read_sheet("graded j 1 2 3 4\nplain i\ngraded h 7 8 9\nplain a\nplain b")
        sides = mixed_rows(200, 10, 6) + [0, 1023, 1023, 0, 512, 1]
        for rule in zip(sides[::2], sides[1::2]):
            told = rule_text(sheet, rule)
            self.assertEqual(told, rule_by_the_words(sheet.columns(), rule))
            self.assertEqual(read_rule(sheet, told), rule)


class SheetsAndSteps(unittest.TestCase):
    def test_a_column_is_had_where_the_worth_is_its_step_or_greater(self):
        for worth in range(12):
            sheet = read_sheet(f"graded a 3 5 10\nthing b {worth}")
            table = table_of(sheet)
            self.assertEqual(table.rows(), [columns_by_the_words([[3, 5, 10]], [worth])])


if __name__ == "__main__":
    unittest.main()
