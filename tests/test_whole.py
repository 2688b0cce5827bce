"""The program's parts held against one another, from a text on."""

import inspect
import unittest

from tests.sheets import mixed_text, refusal, rule_by_the_words, thing_names, told_by
from tests.tables import first_unlike, is_broken_by, mixed_rows, walked
from traitlattice import (
    bits,
    book,
    cross,
    drawing,
    errors,
    gaps,
    hall,
    ideas,
    joins,
    least,
    meets,
    reader,
    rules,
    sheet,
    talk,
    writer,
)

TEXTS = [mixed_text(seed, most_traits=6, gaps=False) for seed in range(120)]
TEXTS += [
    "plain a",
    "thing a",
    "graded a 1 2 3 4\ngraded b 1 2 3 4\ngraded c 1 2\n"
    + "\n".join(f"thing {name} {place % 6} {place // 3 % 6} {place % 4}" for place, name in enumerate(thing_names(60))),
    "\n".join(f"plain {name}" for name in "abcdefghij")
    + "\n"
    + "\n".join(
        " ".join(["thing", name] + ["ny"[row >> column & 1] for column in range(10)])
        for name, row in zip(thing_names(60), mixed_rows(60, 10, 7))
    ),
]


def table_read(text):
    return writer.table_of(reader.read_sheet(text))


class TalkAndBook(unittest.TestCase):
    def assert_talk_ends_with_the_rules(self, text, known, choose):
        read, table = reader.read_sheet(text), table_read(text)
        found = talk.Talk(len(table.columns()), known)
        while found.asked() is not None:
            breaking = [row for row in table.rows() if is_broken_by(row, found.asked())]
            if breaking:
                found.no(breaking[choose % len(breaking)])
            else:
                found.yes()
        self.assertEqual([writer.rule_text(read, rule) for rule in found.rules()], hall.rules_of(text))
        self.assertLessEqual(len(found.things()), 60)

    def test_a_talk_ends_with_the_rules(self):
        for text in TEXTS:
            rows = table_read(text).rows()
            self.assert_talk_ends_with_the_rules(text, None, 0)
            self.assert_talk_ends_with_the_rules(text, rows[:2], -1)
            self.assert_talk_ends_with_the_rules(text, rows, 0)

    def named(self, table, found):
        return [
            ([table.things()[thing] for thing in bits.ones(group)], [table.columns()[k] for k in bits.ones(mask)])
            for group, mask in found
        ]

    def test_a_book_with_these_things_tells_the_ideas(self):
        for text in TEXTS:
            table = table_read(text)
            kept = book.Book(len(table.columns()))
            for row in table.rows():
                kept.put_thing(row)
            self.assertIsNone(first_unlike(self.named(table, kept.ideas()), hall.ideas_of(text)))

    def test_a_book_filled_column_by_column_tells_them_too(self):
        for text in TEXTS:
            table = table_read(text)
            kept = book.Book(0)
            for _ in table.rows():
                kept.put_thing(0)
            for column in range(len(table.columns())):
                kept.put_column(bits.mask_of([k for k, row in enumerate(table.rows()) if row >> column & 1]))
            self.assertEqual(kept.rows(), table.rows())
            self.assertIsNone(first_unlike(self.named(table, kept.ideas()), hall.ideas_of(text)))


class TextsAndTables(unittest.TestCase):
    def test_the_functions_answers_by_names(self):
        for text in TEXTS:
            read, table = reader.read_sheet(text), table_read(text)
            rows, width = table.rows(), len(table.columns())
            row = least.least(rows, width)
            self.assertEqual([reader.read_rule(read, rule) for rule in hall.rules_of(text)], row)
            for rule in row[:8] + [(0, (1 << width) - 1)]:
                told = hall.answer_of(text, rule_by_the_words(table.columns(), rule))
                kind, found = least.answer(rows, width, rule)
                self.assertEqual(told[0], kind)
                if kind == "broken":
                    self.assertEqual(told[1], table.things()[found])
                else:
                    paper = [row.index(reader.read_rule(read, step)) for step in told[1]]
                    self.assertTrue(walked(row, rule, paper))
                    self.assertTrue(walked(row, rule, found))

    def test_a_table_is_the_table_of_its_cells(self):
        for text in TEXTS:
            read = reader.read_sheet(text)
            worths = [[low for low, high in line] for line in read.cells()]
            self.assertEqual(table_read(text).rows(), [gaps.spread(read.steps(), line) for line in worths])

    def test_texts_cut_between_two_things_and_laid_upon_again(self):
        for text in TEXTS:
            lines = text.split("\n")
            traits = [line for line in lines if not line.startswith("thing ")]
            things = lines[len(traits) :]
            for cut in {0, len(things) // 2, len(things)}:
                upper, lower = ["\n".join(traits + part) for part in (things[:cut], things[cut:])]
                if upper and lower:
                    joined = joins.upon(table_read(upper), table_read(lower))
                    self.assertEqual(told_by(joined), told_by(table_read(text)))

    def test_texts_cut_between_two_traits_and_laid_beside_again(self):
        for text in TEXTS:
            lines = text.split("\n")
            traits = [line for line in lines if not line.startswith("thing ")]
            things = [line.split(" ") for line in lines[len(traits) :]]
            for cut in {0, len(traits) // 2, len(traits)}:
                left = "\n".join(traits[:cut] + [" ".join(words[: 2 + cut]) for words in things])
                right = "\n".join(traits[cut:] + [" ".join(words[:2] + words[2 + cut :]) for words in things])
                if left and right:
                    joined = joins.beside(table_read(left), table_read(right))
                    self.assertEqual(told_by(joined), told_by(table_read(text)))

    def test_judged_goes_by_the_gaps(self):
        for seed in range(120):
            text = mixed_text(seed, most_traits=6)
            read = reader.read_sheet(text)
            full = (1 << len(read.columns())) - 1
            for ahead, behind in zip(mixed_rows(8, 10, seed), mixed_rows(8, 10, seed + 1)):
                rule = (ahead & behind & full, behind & full)
                kind = hall.judged(text, rule_by_the_words(read.columns(), rule))[0]
                self.assertEqual(kind == "sure", gaps.sure(read.steps(), read.cells(), rule))
                self.assertEqual(kind == "never", gaps.mending(read.steps(), read.cells(), rule) is None)


# The interface as the document tells it, function by function and method by method.
FUNCTIONS = [
    (bits, "ones(mask) mask_of(places) within(small, large)"),
    (cross, "shared(rows, width, group) having(rows, mask) closed(rows, width, mask)"),
    (ideas, "ideas(rows, width)"),
    (drawing, "covers(found) levels(found) drawing(found)"),
    (meets, "meeting(rows, width, one, other) joining(rows, width, one, other)"),
    (rules, "breaker(rows, rule) holds(rows, rule) grown(rules, mask) way(rules, rule)"),
    (least, "least(rows, width) answer(rows, width, rule)"),
    (gaps, "spread(steps, worths) sure(steps, cells, rule) spoiling(steps, cells, rule) mending(steps, cells, rule)"),
    (reader, "read_sheet(text) read_rule(sheet, text)"),
    (writer, "written(sheet) rule_text(sheet, rule) table_of(sheet)"),
    (joins, "beside(one, other) upon(one, other)"),
    (hall, "ideas_of(text) rules_of(text) answer_of(text, rule) judged(text, rule)"),
    (talk, "Talk(width, rows=None)"),
    (book, "Book(width)"),
    (sheet, "Table(things, columns, rows)"),
]
METHODS = [
    (talk.Talk, "asked(self) yes(self) no(self, row) rules(self) things(self)"),
    (book.Book, "put_thing(self, row) take_thing(self, place) put_column(self, group) take_column(self, place)"),
    (book.Book, "rows(self) width(self) ideas(self)"),
    (sheet.Sheet, "steps(self) cells(self) columns(self) things(self)"),
    (sheet.Table, "things(self) columns(self) rows(self)"),
]


class Interface(unittest.TestCase):
    def test_names_and_arguments(self):
        for holder, told in FUNCTIONS + METHODS:
            for part in told.replace(") ", ")\n").split("\n"):
                name = part.partition("(")[0]
                self.assertEqual(name + str(inspect.signature(getattr(holder, name))), part)

    def test_each_refusal_of_a_text_is_a_trait_error(self):
        for call, handed in (
            (reader.read_sheet, [""]),
            (reader.read_sheet, ["plain a\nplain a"]),
            (reader.read_rule, [reader.read_sheet("plain a"), "b ->"]),
            (table_read, ["plain a\nthing b ?"]),
            (joins.upon, [table_read("plain a"), table_read("plain b")]),
        ):
            self.assertIsNotNone(refusal(call, *handed))
            with self.assertRaises(errors.TraitError):
                call(*handed)
            with self.assertRaises(ValueError):
                call(*handed)


if __name__ == "__main__":
    unittest.main()
