import unittest

from tests.sheets import TOP, all_told, column_names, mixed_text, read_by_the_words, refusal, thing_names
from traitlattice.errors import BadText, TooLarge, Twice, Unknown
from traitlattice.reader import read_rule, read_sheet
from traitlattice.sheet import Sheet

BASE = "plain red\ngraded size 10 40\nthing apple y 40\nthing pea ? 5:12"

# Words that are no names.
NO_NAMES = [
    "", "abcdefghi", "A", "Red", "reD", "RED", "a1", "1", "a.b", "a_b", "a-b", "a:", "?", "red.", "a,", "~", "!", "->",
]
# Words that are no numbers.
NO_NUMBERS = [
    "", "01", "00", "007", "1000000000000000000", "0999999999999999999", "9" * 60, "-1", "-0", "+1", "1.0", "1.",
    ".1", "1_0", "1,0", "1e3", "0x1", "a", "y", "n", "one", "1a", "a1", "#1", "1!", "~",
]

# Lines that are of no form wherever they stand.
NO_FORM = (
    ["", " ", "  ", "plain", "plain ", "graded", "graded ", "thing", "thing ", "a", "y", "?", "7", "->", "~", "#"]
    + ["Plain a", "PLAIN a", "plane a", "pla in a", "plaina", "lain a", "plain. a", "plain:a", "a plain"]
    + ["Graded a 1", "GRADED a 1", "grade a 1", "gradeda 1", "graded: a 1", "a graded 1", "step a 1", "1 a graded"]
    + ["Thing b y 1", "THING b y 1", "things b y 1", "thin b y 1", "thingb y 1", "b y 1", "b thing y 1"]
    + [" plain a", "plain  a", "plain a ", "  plain a", "plain a  ", "plain a b", "plain a 1", "plain a y"]
    + [" graded a 1", "graded  a 1", "graded a  1", "graded a 1 ", "graded a 1  2", "graded a 1 2 "]
    + [" thing b y 1", "thing  b y 1", "thing b  y 1", "thing b y  1", "thing b y 1 "]
    + ["graded a", "graded a ", "graded a 1 2 3 4 5", "graded a 1 2 3 4 5 6", "graded 1", "graded 1 2"]
    + ["graded a 0", "graded a 0 1", "graded a 1 0", "graded a 2 1", "graded a 1 1", "graded a 1 2 2"]
    + ["graded a 1 3 2", "graded a 5 6 7 1", "graded a 10 9", f"graded a {TOP} {TOP}", f"graded a {TOP} 1"]
    + ["graded a 1:2", "graded a ?", "graded a 1 ?", "graded a 1 b", "graded a b 1"]
    + ["plain " + name for name in NO_NAMES]
    + [f"graded {name} 1" for name in NO_NAMES]
    + [f"thing {name} y 1" for name in NO_NAMES]
    + [f"graded a {number}" for number in NO_NUMBERS]
    + [f"graded a 1 {number}" for number in NO_NUMBERS]
    + [f"graded a 1 2 3 {number}" for number in NO_NUMBERS]
)

PLAIN_WORDS = [("y", (1, 1)), ("n", (0, 0)), ("?", (0, 1))]
NO_PLAIN_WORDS = [
    "", "Y", "N", "yes", "no", "yy", "yn", "??", "1", "0", "2", "0:1", "1:1", "y:n", "n:y", "?:?", "x", "-", "!", ".",
]
GRADED_WORDS = [
    ("0", (0, 0)),
    ("1", (1, 1)),
    ("9", (9, 9)),
    ("10", (10, 10)),
    ("100000000000000000", (10**17, 10**17)),
    (str(TOP), (TOP, TOP)),
    ("0:1", (0, 1)),
    ("1:2", (1, 2)),
    ("9:10", (9, 10)),
    (f"0:{TOP - 1}", (0, TOP - 1)),
    (f"1:{TOP}", (1, TOP)),
    (f"{TOP - 1}:{TOP}", (TOP - 1, TOP)),
    ("?", (0, TOP)),
]
NO_GRADED_WORDS = (
    NO_NUMBERS
    + [":", "::", "1:", ":1", "1:2:3", "1::2", "1:2:", ":1:2", "?:1", "1:?", "?:?", "??", "1?", "?1", "1-2", "1..2"]
    + ["1:1", "0:0", "2:1", "1:0", "10:9", f"{TOP}:{TOP}", f"{TOP}:0", f"{TOP}:{TOP - 1}", f"0:{TOP}"]
    + [f"0:{number}" for number in NO_NUMBERS]
    + [f"{number}:{TOP}" for number in NO_NUMBERS]
    + ["1: 2", "1 :2"]
)


def cell_of(kind, word):
    return read_sheet(f"{kind}\nthing b {word}").cells()[0][0]


class ReadSheet(unittest.TestCase):
    def assert_told(self, text, steps, cells, columns, things):
        self.assertEqual(all_told(read_sheet(text)), (steps, cells, columns, things))

    def test_by_hand(self):
        self.assertIsInstance(read_sheet(BASE), Sheet)
        self.assert_told(
            BASE,
            [[1], [10, 40]],
            [[(1, 1), (40, 40)], [(0, 1), (5, 12)]],
            ["red", "size.10", "size.40"],
            ["apple", "pea"],
        )

    def test_one_line(self):
        self.assert_told("plain a", [[1]], [], ["a"], [])
        self.assert_told("graded a 1", [[1]], [], ["a.1"], [])
        self.assert_told("thing a", [], [[]], [], ["a"])

    def test_no_trait(self):
        self.assert_told("thing b\nthing a\nthing c", [], [[], [], []], [], ["b", "a", "c"])

    def test_no_thing(self):
        self.assert_told("graded b 2 3\nplain a\ngraded c 1", [[2, 3], [1], [1]], [], ["b.2", "b.3", "a", "c.1"], [])

    def test_the_texts_order(self):
        self.assert_told(
            "graded z 3 4\nplain b\ngraded a 1 2\nplain y\nthing q 1 y 2 n\nthing a 3 n 4 y\nthing m 0 ? ? ?",
            [[3, 4], [1], [1, 2], [1]],
            [
                [(1, 1), (1, 1), (2, 2), (0, 0)],
                [(3, 3), (0, 0), (4, 4), (1, 1)],
                [(0, 0), (0, 1), (0, TOP), (0, 1)],
            ],
            ["z.3", "z.4", "b", "a.1", "a.2", "y"],
            ["q", "a", "m"],
        )

    def test_steps(self):
        greatest = [TOP - 3, TOP - 2, TOP - 1, TOP]
        for steps in ([1], [TOP], [1, 2], [9, 10], [1, TOP], [1, 2, 3], [1, 5, 7, 60], greatest):
            words = [str(step) for step in steps]
            self.assert_told(" ".join(["graded", "a"] + words), [steps], [], ["a." + word for word in words], [])

    def test_names(self):
        for name in ("a", "z", "abcdefgh", "zzzzzzzz", "plain", "graded", "thing", "y", "n"):
            self.assert_told(f"plain {name}\nthing {name} y", [[1]], [[(1, 1)]], [name], [name])
            self.assert_told(f"graded {name} 7\nthing {name} 6", [[7]], [[(6, 6)]], [name + ".7"], [name])
            self.assert_told("thing " + name, [], [[]], [], [name])

    def test_each_form_of_a_cell(self):
        for word, cell in PLAIN_WORDS:
            self.assertEqual(cell_of("plain a", word), cell)
        for word, cell in GRADED_WORDS:
            for kind in ("graded a 1", "graded a 5 6 7 8", f"graded a {TOP}"):
                self.assertEqual(cell_of(kind, word), cell)

    def test_a_graded_trait_with_the_step_one_is_not_plain(self):
        self.assert_told("graded a 1\nthing b ?", [[1]], [[(0, TOP)]], ["a.1"], ["b"])
        self.assert_told("plain a\nthing b ?", [[1]], [[(0, 1)]], ["a"], ["b"])

    def test_a_trait_and_a_thing_of_the_same_name(self):
        self.assert_told(
            "plain a\ngraded b 2\nthing b y 0\nthing a n 1",
            [[1], [2]],
            [[(1, 1), (0, 0)], [(0, 0), (1, 1)]],
            ["a", "b.2"],
            ["b", "a"],
        )

    def test_things_with_the_same_cells(self):
        self.assert_told("plain a\nthing b y\nthing c y", [[1]], [[(1, 1)], [(1, 1)]], ["a"], ["b", "c"])

    def test_kinds(self):
        steps, cells, columns, things = all_told(read_sheet(BASE))
        for told in [steps, cells, columns, things] + steps + cells:
            self.assertIs(type(told), list)
        self.assertEqual({type(step) for line in steps for step in line}, {int})
        self.assertEqual({type(cell) for line in cells for cell in line}, {tuple})
        self.assertEqual({type(end) for line in cells for cell in line for end in cell}, {int})
        self.assertEqual({type(name) for name in columns + things}, {str})


class Kept(unittest.TestCase):
    def test_told_lists_are_the_askers_own(self):
        sheet = read_sheet(BASE)
        wanted, kept = all_told(read_sheet(BASE)), all_told(sheet)
        for told in (sheet.steps(), sheet.cells()):
            told[1].append(None)
            told[0].clear()
            self.assertEqual(all_told(sheet), wanted)
        for told in all_told(sheet):
            told.reverse()
            told.append(None)
            self.assertEqual(all_told(sheet), wanted)
        self.assertEqual(kept, wanted)
        self.assertEqual(all_told(read_sheet(BASE)), wanted)

    def test_plain_traits_share_no_list_of_steps(self):
        sheet = read_sheet("plain a\nplain b")
        sheet.steps()[0].append(2)
        steps = sheet.steps()
        steps[0].append(2)
        self.assertEqual(steps[1], [1])
        self.assertEqual(sheet.steps(), [[1], [1]])
        self.assertEqual(read_sheet("plain a").steps(), [[1]])

    def test_a_refusal_leaves_nothing_behind(self):
        for text in ("plain a\nthing b y\nthing b y", "plain a\nplain a", ""):
            self.assertIsNotNone(refusal(read_sheet, text))
            self.assertEqual(all_told(read_sheet("plain a\nthing b n")), ([[1]], [[(0, 0)]], ["a"], ["b"]))


class BadTexts(unittest.TestCase):
    def assert_bad(self, text, line):
        with self.subTest(text=text):
            with self.assertRaises(BadText) as taken:
                read_sheet(text)
            self.assertEqual(taken.exception.line, line)
            self.assertIs(type(taken.exception.line), int)

    def test_an_empty_text(self):
        self.assert_bad("", 1)

    def test_line_feeds(self):
        lines = BASE.split("\n")
        for place in range(5):
            self.assert_bad("\n".join(lines[:place] + [""] + lines[place:]), place + 1)
        self.assert_bad(BASE + "\n", 5)
        self.assert_bad(BASE + "\n\n", 5)
        self.assert_bad("\n", 1)
        self.assert_bad("plain a\n", 2)
        self.assert_bad("thing a\n", 2)

    def test_lines_of_no_form_at_each_place(self):
        lines = BASE.split("\n")
        for bad in NO_FORM:
            for place in range(5):
                self.assert_bad("\n".join(lines[:place] + [bad] + lines[place:]), place + 1)
            self.assert_bad(bad, 1)

    def test_plain_cells(self):
        for word in NO_PLAIN_WORDS:
            self.assert_bad(f"plain a\nthing b {word}", 2)
            self.assert_bad(f"plain a\nplain b\nthing b y {word}", 3)
            self.assert_bad(f"plain a\nplain b\nthing b {word} n", 3)
            self.assert_bad(f"plain a\nthing b y\nthing c {word}\nthing d n", 3)

    def test_graded_cells(self):
        for word in NO_GRADED_WORDS:
            self.assert_bad(f"graded a 5\nthing b {word}", 2)
            self.assert_bad(f"graded a 5\ngraded b 1 2\nthing b 0 {word}", 3)
            self.assert_bad(f"graded a 5\ngraded b 1 2\nthing b {word} 0", 3)
            self.assert_bad(f"graded a 5\nthing b 1\nthing c {word}\nthing d 2", 3)

    def test_the_other_kinds_cells(self):
        for line in ("thing b 1 y", "thing b y y", "thing b 1 1", "thing b 5:6 ?", "thing b ? n", "thing b 0 0"):
            self.assert_bad("plain a\ngraded b 1\n" + line, 3)
        for line in ("thing b y 1", "thing b y y", "thing b 1 1", "thing b ? 5:6", "thing b n ?"):
            self.assert_bad("graded a 1\nplain b\n" + line, 3)

    def test_as_many_cells_as_traits(self):
        for many in range(11):
            traits = [f"plain {name}" for name in "abcdefghij"[:many]]
            for cells in range(13):
                text = "\n".join(traits + [" ".join(["thing", "a"] + ["y"] * cells)])
                if cells == many:
                    self.assertEqual(read_sheet(text).cells(), [[(1, 1)] * many])
                else:
                    self.assert_bad(text, many + 1)

    def test_a_trait_line_behind_a_thing_line(self):
        for trait in ("plain a", "plain b", "graded b 1", "graded c 1 2 3 4", "plain thing"):
            self.assert_bad("thing t\n" + trait, 2)
            self.assert_bad(f"plain a\nthing t y\n{trait}\nthing u y", 3)
            self.assert_bad(f"plain a\nthing t y\nthing u n\n{trait}", 4)

    def test_a_traits_own_line_is_too_late_for_a_thing_above(self):
        self.assert_bad("thing t y\nplain a", 1)

    def test_each_sign_within_a_name_and_a_number(self):
        for sign in [chr(number) for number in range(ord(" "), ord("~") + 1) if chr(number) != "%"]:
            if not sign.islower():
                self.assert_bad(f"plain a{sign}b", 1)
                self.assert_bad(f"plain {sign}", 1)
                self.assert_bad(f"thing a{sign}b", 1)
            if not sign.isdigit():
                self.assert_bad(f"graded a 1{sign}1", 1)
                self.assert_bad(f"graded a 1 2{sign}", 1)
                self.assert_bad(f"graded a 1\nthing b {sign}2", 2)
                self.assert_bad(f"graded a 1\nthing b 1:2{sign}", 2)
                self.assert_bad(f"graded a 1\nthing b 1{sign}:2", 2)
            if sign not in ": " and not sign.isdigit():
                self.assert_bad(f"graded a 1\nthing b 1{sign}2", 2)
            if sign not in "yn?":
                self.assert_bad(f"plain a\nthing b {sign}", 2)

    def test_words_of_sixty_signs(self):
        for word in ("a" * 60, "1" * 60, "9" * 29 + ":" + "9" * 30, "?" * 60, "-" * 60):
            for line in (word, "plain " + word, "graded a " + word, "thing a " + word, f"graded {word} 1"):
                self.assert_bad("graded b 1\n" + line, 2)


class TwiceTexts(unittest.TestCase):
    def assert_twice(self, text, line):
        with self.subTest(text=text):
            with self.assertRaises(Twice) as taken:
                read_sheet(text)
            self.assertEqual(taken.exception.line, line)
            self.assertIs(type(taken.exception.line), int)

    def test_a_traits_name(self):
        for first in ("plain a", "graded a 1", "graded a 3 4"):
            for second in ("plain a", "graded a 1", "graded a 7 8"):
                self.assert_twice(first + "\n" + second, 2)
                self.assert_twice(f"plain b\n{first}\ngraded c 1\n{second}\nthing a y y 1 y", 4)

    def test_a_things_name(self):
        self.assert_twice("thing a\nthing a", 2)
        self.assert_twice("plain b\nthing a y\nthing a y", 3)
        self.assert_twice("plain b\nthing a y\nthing c n\nthing a n\nthing d y", 4)

    def test_eight_letters(self):
        self.assert_twice("plain abcdefgh\nplain abcdefgh", 2)
        self.assertIsNone(refusal(read_sheet, "plain abcdefgh\nplain abcdefgi\nplain abcdefg"))

    def test_a_name_that_begins_another_one(self):
        self.assertIsNone(refusal(read_sheet, "plain a\nplain aa\nplain ab\nthing b y n y\nthing bb y n y"))


class TooLargeTexts(unittest.TestCase):
    def assert_too_large(self, text, line):
        with self.subTest(text=text):
            with self.assertRaises(TooLarge) as taken:
                read_sheet(text)
            self.assertEqual(taken.exception.line, line)
            self.assertIs(type(taken.exception.line), int)

    def test_ten_columns_go(self):
        for text in (
            "\n".join(f"plain {name}" for name in "abcdefghij"),
            "\n".join(f"graded {name} 1 2" for name in "abcde"),
            "graded a 1 2 3 4\ngraded b 1 2 3 4\ngraded c 1 2",
            "graded a 1 2 3\nplain b\nplain c\ngraded d 1 2 3 4\ngraded e 1",
        ):
            sheet = read_sheet(text)
            self.assertEqual(len(sheet.columns()), 10)
            self.assertEqual(sum(len(marks) for marks in sheet.steps()), 10)
            self.assert_too_large(text + "\nplain z", text.count("\n") + 2)
            self.assert_too_large(text + "\ngraded z 1", text.count("\n") + 2)
            self.assert_too_large(text + "\ngraded z 1 2 3 4\nplain y", text.count("\n") + 2)

    def test_more_than_ten_at_once(self):
        self.assert_too_large("graded a 1 2 3 4\ngraded b 1 2 3 4\ngraded c 1 2 3", 3)
        self.assert_too_large("graded a 1 2 3 4\ngraded b 1 2 3 4\nplain c\ngraded d 1 2", 4)
        self.assert_too_large("graded a 1 2 3 4\ngraded b 1 2 3 4\ngraded c 1 2 3 4\nplain d", 3)

    def test_sixty_things_go(self):
        for traits, cells in ((["plain a"], " y"), ([], ""), (["graded a 1 2 3 4", "plain b"], " 3:4 ?")):
            lines = traits + [f"thing {name}{cells}" for name in thing_names(60)]
            sheet = read_sheet("\n".join(lines))
            self.assertEqual(sheet.things(), thing_names(60))
            self.assertEqual(len(sheet.cells()), 60)
            self.assert_too_large("\n".join(lines + [f"thing b{cells}"]), len(traits) + 61)
            self.assert_too_large("\n".join(lines + [f"thing b{cells}", f"thing c{cells}"]), len(traits) + 61)

    def test_ten_columns_and_sixty_things(self):
        lines = [f"plain {name}" for name in "abcdefghij"] + [f"thing {name}" + " ?" * 10 for name in thing_names(60)]
        sheet = read_sheet("\n".join(lines))
        self.assertEqual((len(sheet.columns()), len(sheet.things())), (10, 60))


class MoreThanOneFault(unittest.TestCase):
    def test_in_one_line(self):
        ten = "\n".join(f"plain {name}" for name in "abcdefghij")
        sixty = "\n".join(f"thing {name}" for name in thing_names(60))
        for text, wanted in (
            # BadText and Twice.
            ("plain a\nplain a b", ("BadText", 2)),
            ("plain a\ngraded a 2 1", ("BadText", 2)),
            ("plain a\ngraded a", ("BadText", 2)),
            ("plain a\nthing b y\nthing b", ("BadText", 3)),
            ("plain a\nthing b y\nthing b 1", ("BadText", 3)),
            ("plain a\nthing b y\nplain a", ("BadText", 3)),
            # BadText and TooLarge.
            (ten + "\nplain z z", ("BadText", 11)),
            (ten + "\ngraded z 1 1", ("BadText", 11)),
            (ten + "\nthing t" + " y" * 10 + "\nplain z", ("BadText", 12)),
            (sixty + "\nthing z y", ("BadText", 61)),
            (sixty + "\nthing Z", ("BadText", 61)),
            # Twice and TooLarge.
            (ten + "\nplain a", ("Twice", 11)),
            (ten + "\ngraded j 1 2 3 4", ("Twice", 11)),
            (sixty + "\nthing taa", ("Twice", 61)),
            (sixty + "\nthing tfj", ("Twice", 61)),
            # All three.
            (ten + "\ngraded a 0", ("BadText", 11)),
            (sixty + "\nthing taa ", ("BadText", 61)),
        ):
            with self.subTest(text=text):
                self.assertEqual(refusal(read_sheet, text), wanted)

    def test_in_more_than_one_line(self):
        ten = "\n".join(f"plain {name}" for name in "abcdefghij")
        for text, wanted in (
            ("\n\n", ("BadText", 1)),
            ("plain a\nplain a\n", ("Twice", 2)),
            ("plain a\n\nplain a", ("BadText", 2)),
            ("plain a\nplain a\nplain a", ("Twice", 2)),
            ("plain a\nplain a\ngraded b 2 1", ("Twice", 2)),
            (ten + "\nplain z\nplain a", ("TooLarge", 11)),
            (ten + "\nplain a\nplain z", ("Twice", 11)),
            (ten + "\nplain z\nnothing", ("TooLarge", 11)),
            (ten + "\nplain z\nthing b y", ("TooLarge", 11)),
            ("plain a\nthing b\nthing b y\nthing b y", ("BadText", 2)),
            ("plain a\nthing b y\nthing b y\nplain c", ("Twice", 3)),
            ("plain a\nthing b y\nplain c\nthing b y", ("BadText", 3)),
        ):
            with self.subTest(text=text):
                self.assertEqual(refusal(read_sheet, text), wanted)


SIGNS = " \n0129ayntZ?:.->+_~"


def changed_signs(text):
    """The text with a sign more, a sign fewer, another sign, or two signs exchanged at each place."""
    for place in range(len(text) + 1):
        yield text[:place] + text[place + 1 :]
        yield text[:place] + text[place + 1 : place + 2] + text[place : place + 1] + text[place + 2 :]
        for sign in SIGNS:
            yield text[:place] + sign + text[place:]
            yield text[:place] + sign + text[place + 1 :]


def changed_lines(text):
    """The text with a line more, a line fewer, or two lines exchanged at each place."""
    lines = text.split("\n")
    more = lines + ["plain q", "graded q 1 2 3 4", "thing q", "thing q y", "thing q 1", ""]
    for place in range(len(lines) + 1):
        yield "\n".join(lines[:place] + lines[place + 1 :])
        for line in more:
            yield "\n".join(lines[:place] + [line] + lines[place:])
        for other in range(place):
            swapped = list(lines)
            swapped[other : other + 1], swapped[place : place + 1] = lines[place : place + 1], lines[other : other + 1]
            yield "\n".join(swapped)


class AgainstTheWords(unittest.TestCase):
    def assert_alike(self, text):
        """Gives back what the document asks: "sheet" or a refusal's name."""
        wanted = read_by_the_words(text)
        told = refusal(read_sheet, text)
        if wanted[0] != "sheet":
            self.assertEqual(told, wanted, text)
            return wanted[0]
        self.assertIsNone(told, text)
        kind, traits, things = wanted
        self.assertEqual(
            all_told(read_sheet(text)),
            (
                [steps for kind, name, steps in traits],
                [cells for name, cells in things],
                column_names(traits),
                [name for name, cells in things],
            ),
            text,
        )
        return kind

    def test_texts_that_are_let_in(self):
        for seed in range(200):
            self.assertEqual(self.assert_alike(mixed_text(seed)), "sheet")

    def test_changed_at_each_sign(self):
        seen = {}
        texts = [BASE, "thing a", "plain a\nplain y\nthing a y n\nthing n ? y"]
        texts += [f"graded a 1 9\nthing b 0:{TOP - 1}\nthing c 10"] + [mixed_text(seed) for seed in range(20)]
        for text in texts:
            for changed in changed_signs(text):
                seen[self.assert_alike(changed)] = True
        self.assertEqual(sorted(seen), ["BadText", "Twice", "sheet"])

    def test_changed_at_each_line(self):
        ten = "graded a 1 2 3 4\ngraded b 1 2 3 4\nplain c\nplain d\nthing x 0 0 y n\nthing y 1 2 n n"
        sixty = "\n".join(f"thing {name}" for name in thing_names(60))
        seen = {}
        for text in [BASE, ten] + [mixed_text(seed) for seed in range(60)]:
            for changed in changed_lines(text):
                seen[self.assert_alike(changed)] = True
        for line in ("thing q", "thing taa", "thing tfj", "thing q y", "plain q", ""):
            seen[self.assert_alike(sixty + "\n" + line)] = True
        self.assertEqual(sorted(seen), ["BadText", "TooLarge", "Twice", "sheet"])


RULE_SHEET = "plain red\ngraded size 10 40\nplain small\ngraded plain 1"


class ReadRule(unittest.TestCase):
    def setUp(self):
        self.sheet = read_sheet(RULE_SHEET)

    def assert_read(self, text, ahead, behind):
        told = read_rule(self.sheet, text)
        self.assertEqual(told, (ahead, behind), text)
        self.assertIs(type(told), tuple)
        self.assertEqual([type(side) for side in told], [int, int])

    def assert_bad(self, text):
        with self.subTest(text=text):
            with self.assertRaises(BadText) as taken:
                read_rule(self.sheet, text)
            self.assertEqual(taken.exception.line, 0)
            self.assertIs(type(taken.exception.line), int)

    def assert_unknown(self, text, word):
        with self.subTest(text=text):
            with self.assertRaises(Unknown) as taken:
                read_rule(self.sheet, text)
            self.assertEqual(taken.exception.word, word)

    def test_by_hand(self):
        self.assert_read("red -> size.10", 0b00001, 0b00010)
        self.assert_read("size.40 small -> red plain.1", 0b01100, 0b10001)
        self.assert_read("red size.10 size.40 small plain.1 -> red size.10 size.40 small plain.1", 31, 31)

    def test_no_name_on_a_side(self):
        self.assert_read("->", 0, 0)
        self.assert_read("-> red", 0, 1)
        self.assert_read("red ->", 1, 0)
        self.assert_read("-> red small", 0, 0b01001)
        self.assert_read("red small ->", 0b01001, 0)

    def test_no_columns(self):
        for text in ("thing a", "thing a\nthing b"):
            self.assertEqual(read_rule(read_sheet(text), "->"), (0, 0))
            self.assertEqual(refusal(read_rule, read_sheet(text), "a ->"), ("Unknown", "a"))

    def test_names_in_any_order_and_more_than_once(self):
        self.assert_read("small red -> plain.1 size.10", 0b01001, 0b10010)
        self.assert_read("red red -> red red red", 1, 1)
        self.assert_read("small red small -> size.10 size.40 size.10", 0b01001, 0b00110)
        self.assert_read(" ".join(["red"] * 40 + ["->"] + ["small"] * 40), 1, 0b01000)

    def test_a_column_on_both_sides(self):
        self.assert_read("red size.10 -> size.10 small", 0b00011, 0b01010)

    def test_the_last_of_ten_columns(self):
        self.sheet = read_sheet("\n".join(f"plain {name}" for name in "abcdefghij"))
        self.assert_read("j -> a", 512, 1)
        self.assert_read("a b c d e f g h i j -> j", 1023, 512)

    def test_the_greatest_step(self):
        self.sheet = read_sheet(f"graded abcdefgh 1 {TOP}")
        self.assert_read(f"abcdefgh.{TOP} -> abcdefgh.1", 2, 1)

    def test_arrows(self):
        for text in ("red", "red small", "red size.10 size.40", "-> ->", "red -> -> small", "-> red ->"):
            self.assert_bad(text)
        for text in ("-> -> ->", "red -> small -> plain.1", "red->small", "red ->small", "red-> small", "->red", "-->"):
            self.assert_bad(text)
        for text in ("- >", "=>", "red > small", "red - small", "red => small", "red >- small", "red ->> small", "<-"):
            self.assert_bad(text)

    def test_empty_words(self):
        for text in ("", " ", "  ", " ->", "-> ", " -> ", "->  red", "red  ->", "red  -> small", "red ->  small"):
            self.assert_bad(text)
        for text in (" red -> small", "red -> small ", "red  size.10 -> small", "red -> small  red", "  red -> small"):
            self.assert_bad(text)
        for text in ("red ", " red", "red  small", " red small "):
            self.assert_bad(text)

    def test_words_that_are_no_columns_names(self):
        unknown = ["blue", "size", "size.", "size.1", "size.41", "size.040", "size.10.40", "size:10", ".10", "10"]
        unknown += ["plain", "plain.01", "plain.2", "red.1", "small.1", "Red", "RED", "re", "redd"]
        unknown += ["=>", "-", ">", "?", "~", "x" * 60]
        for word in unknown:
            self.assert_unknown(word + " ->", word)
            self.assert_unknown("-> " + word, word)
            self.assert_unknown(f"red {word} small -> size.10", word)
            self.assert_unknown(f"red {word} -> size.10", word)
            self.assert_unknown(f"{word} red -> size.10", word)
            self.assert_unknown(f"red -> {word} size.10", word)
            self.assert_unknown(f"red -> size.10 small {word}", word)

    def test_a_things_name_is_no_columns_name(self):
        self.sheet = read_sheet("plain a\nthing b y")
        self.assert_unknown("b -> a", "b")

    def test_the_first_such_word(self):
        self.assert_unknown("blue -> green", "blue")
        self.assert_unknown("red green -> blue", "green")
        self.assert_unknown("zzz aaa -> red", "zzz")
        self.assert_unknown("red -> zzz aaa", "zzz")
        self.assert_unknown("red red -> small zzz small aaa aaa", "zzz")

    def test_both_kinds_of_fault(self):
        for text in ("blue", "blue ", " blue ->", "blue  -> red", "blue -> green -> red", "-> blue ->", "blue -> red "):
            self.assert_bad(text)

    def test_a_line_feed_parts_no_words(self):
        self.assert_unknown("red -> small\n", "small\n")
        self.assert_unknown("red\nsmall -> red", "red\nsmall")
        self.assert_bad("->\n")
        self.assert_bad("red\n-> small")

    def test_the_sheet_stays_as_it_was(self):
        before = all_told(self.sheet)
        for text in ("red -> small", "->", "", "blue ->", "-> ->"):
            refusal(read_rule, self.sheet, text)
        self.assertEqual(all_told(self.sheet), before)


if __name__ == "__main__":
    unittest.main()
