import unittest

from tests.sheets import (
    TOP,
    column_names,
    holds_in,
    mixed_text,
    read_by_the_words,
    refusal,
    rows_of_a_thing,
    rule_by_the_words,
    table_by_the_words,
    tables_of,
    thing_names,
)
from tests.tables import (
    every_rule,
    first_unlike,
    ideas_by_the_words,
    is_broken_by,
    least_by_the_words,
    mixed_rows,
    rows_lacking_one,
    walked,
)
from traitlattice.hall import answer_of, ideas_of, judged, rules_of

FRUIT = "plain red\ngraded size 10 40\nthing apple y 40\nthing pea n 9\nthing plum y 12"


def plain_text(rows, width):
    """The text of a sheet of plain traits that has this table."""
    lines = ["plain " + name for name in "jihgfedcba"[:width]]
    for name, row in zip(thing_names(len(rows)), rows):
        lines.append(" ".join(["thing", name] + ["ny"[row >> column & 1] for column in range(width)]))
    return "\n".join(lines)


SMALL = ["plain a", "thing a", "thing a\nthing b", "plain a\nthing b y", "graded a 3 5\nthing b 4\nthing c 2", FRUIT]
SMALL += [mixed_text(seed, most_columns=3, gaps=False) for seed in range(60)]
MIDDLING = [mixed_text(seed, most_traits=6, gaps=False) for seed in range(60, 140)]
LARGE = [
    plain_text(rows, width)
    for rows, width in (
        ([], 10),
        ([0] * 60, 10),
        ([1023] * 60, 10),
        (rows_lacking_one(60, 10), 10),
        (mixed_rows(60, 10, 1), 10),
        (mixed_rows(60, 10, 2), 10),
        (mixed_rows(9, 10, 3), 10),
        ([0] * 60, 0),
    )
]

GAPPY = ["plain a", "thing a", "plain a\nthing b ?", "plain a\nplain b\nthing c ? ?\nthing d y ?\nthing e ? n"]
GAPPY += ["graded a 3 5\nthing b ?", f"graded a 1 {TOP}\nthing b 0:1\nthing c 1:{TOP}\nthing d {TOP - 1}:{TOP}"]
GAPPY += [mixed_text(seed, most_columns=3, most_things=3) for seed in range(140, 240)]


def side_texts(columns, rule):
    """Two texts of a rule: as it is written, and with names exchanged and more than once."""
    plain = rule_by_the_words(columns, rule)
    ahead, behind = [side.split() for side in plain.split("->")]
    return [plain, " ".join(ahead[::-1] + ahead + ["->"] + behind + behind[::-1])]


class IdeasOf(unittest.TestCase):
    def test_by_hand(self):
        self.assertEqual(
            ideas_of(FRUIT),
            [
                (["apple", "pea", "plum"], []),
                (["apple", "plum"], ["red", "size.10"]),
                (["apple"], ["red", "size.10", "size.40"]),
            ],
        )

    def test_no_trait_and_no_thing(self):
        self.assertEqual(ideas_of("thing b\nthing a"), [(["b", "a"], [])])
        self.assertEqual(ideas_of("plain b\ngraded a 1 2"), [([], ["b", "a.1", "a.2"])])

    def test_against_the_words(self):
        for text in SMALL + MIDDLING + LARGE:
            things, columns, rows = table_by_the_words(text)
            wanted = [
                (
                    [name for place, name in enumerate(things) if group >> place & 1],
                    [name for place, name in enumerate(columns) if mask >> place & 1],
                )
                for group, mask in ideas_by_the_words(rows, len(columns))
            ]
            self.assertIsNone(first_unlike(ideas_of(text), wanted), text)

    def test_pairs_both_ways(self):
        for text in SMALL + MIDDLING:
            things, columns, rows = table_by_the_words(text)
            has = {
                name: [column for place, column in enumerate(columns) if row >> place & 1]
                for name, row in zip(things, rows)
            }
            told = ideas_of(text)
            for group, mask in told:
                self.assertEqual(group, [name for name in things if set(mask) <= set(has[name])])
                self.assertEqual(mask, [column for column in columns if all(column in has[name] for name in group)])
            self.assertEqual(len(told), len({tuple(mask) for group, mask in told}))

    def test_kinds(self):
        told = ideas_of(FRUIT)
        self.assertIs(type(told), list)
        for idea in told:
            self.assertIs(type(idea), tuple)
            self.assertEqual([type(part) for part in idea], [list, list])

    def test_told_lists_are_the_askers_own(self):
        told, kept, wanted = ideas_of(FRUIT), ideas_of(FRUIT), ideas_of(FRUIT)
        told[0][0].append("fig")
        told[1][1].clear()
        self.assertEqual(told[2], wanted[2])
        told.clear()
        self.assertEqual(kept, wanted)
        self.assertEqual(ideas_of(FRUIT), wanted)


class RulesOf(unittest.TestCase):
    def test_by_hand(self):
        self.assertEqual(rules_of(FRUIT), ["red -> size.10", "size.10 -> red", "size.40 -> red size.10"])
        self.assertEqual(rules_of("graded a 3 5\nthing b 4\nthing c 2"), ["a.5 -> a.3"])

    def test_no_trait_and_no_thing(self):
        self.assertEqual(rules_of("thing b\nthing a"), [])
        self.assertEqual(rules_of("plain b\ngraded a 1 2"), ["-> b a.1 a.2"])

    def test_against_the_words(self):
        for text in SMALL + MIDDLING + LARGE:
            things, columns, rows = table_by_the_words(text)
            wanted = [rule_by_the_words(columns, rule) for rule in least_by_the_words(rows, len(columns))]
            self.assertIsNone(first_unlike(rules_of(text), wanted), text)

    def test_kinds_and_told_lists(self):
        told, wanted = rules_of(FRUIT), rules_of(FRUIT)
        self.assertIs(type(told), list)
        self.assertEqual({type(rule) for rule in told}, {str})
        told.reverse()
        told.append(None)
        self.assertEqual(rules_of(FRUIT), wanted)


class AnswerOf(unittest.TestCase):
    def assert_answered(self, text, rule, written_rule):
        """The breaker is the first one, and a paper can be walked over what rules_of tells."""
        things, columns, rows = table_by_the_words(text)
        told = answer_of(text, written_rule)
        self.assertIs(type(told), tuple)
        breakers = [name for name, row in zip(things, rows) if is_broken_by(row, rule)]
        if breakers:
            self.assertEqual(told, ("broken", breakers[0]))
            return
        self.assertEqual(told[0], "follows")
        self.assertEqual(len(told), 2)
        self.assertIs(type(told[1]), list)
        row = rules_of(text)
        self.assertEqual([step for step in told[1] if step not in row], [])
        paper = [row.index(step) for step in told[1]]
        self.assertTrue(walked(least_by_the_words(rows, len(columns)), rule, paper))

    def test_by_hand(self):
        self.assertEqual(answer_of(FRUIT, "size.40 -> red"), ("follows", ["size.40 -> red size.10"]))
        self.assertEqual(answer_of(FRUIT, "size.10 -> size.40"), ("broken", "plum"))
        self.assertEqual(answer_of(FRUIT, "-> red"), ("broken", "pea"))
        self.assertEqual(answer_of(FRUIT, "red size.10 -> red"), ("follows", []))
        self.assertEqual(answer_of(FRUIT, "->"), ("follows", []))

    def test_a_paper_of_more_than_one_rule(self):
        halves = ["n n", "n y", "y y"]
        text = "plain a\nplain b\nplain c\nplain d"
        for place in range(9):
            text += f"\nthing {'abcdefghi'[place]} {halves[place // 3]} {halves[place % 3]}"
        self.assertEqual(rules_of(text), ["a -> b", "c -> d"])
        kind, paper = answer_of(text, "c a -> d b")
        self.assertEqual((kind, sorted(paper)), ("follows", ["a -> b", "c -> d"]))
        self.assertEqual(answer_of(text, "a -> d"), ("broken", "g"))

    def test_a_paper_in_the_order_in_which_it_is_walked(self):
        # The second rule of the row must be gone by first: it puts in what the first one asks for.
        rows = [mask for mask in range(16) if not is_broken_by(mask, (8, 4)) and not is_broken_by(mask, (6, 1))]
        text = plain_text(rows, 4)
        self.assertEqual(rules_of(text), ["i h -> j", "g -> h"])
        self.assertEqual(answer_of(text, "g i -> j"), ("follows", ["g -> h", "i h -> j"]))

    def test_no_trait_and_no_thing(self):
        self.assertEqual(answer_of("thing b\nthing a", "->"), ("follows", []))
        self.assertEqual(answer_of("plain b\nplain a", "-> a"), ("follows", ["-> b a"]))
        self.assertEqual(answer_of("plain b\nplain a", "a ->"), ("follows", []))

    def test_every_rule_of_small_sheets(self):
        seen = {}
        for text in SMALL:
            columns = table_by_the_words(text)[1]
            for rule in every_rule(len(columns)):
                for written_rule in side_texts(columns, rule):
                    self.assert_answered(text, rule, written_rule)
                    seen[answer_of(text, written_rule)[0]] = True
        self.assertEqual(sorted(seen), ["broken", "follows"])

    def test_some_rules_of_larger_sheets(self):
        sides = mixed_rows(40, 10, 8)
        for text in MIDDLING[:30] + LARGE:
            columns = table_by_the_words(text)[1]
            full = (1 << len(columns)) - 1
            for ahead, behind in list(zip(sides[::2], sides[1::2]))[:12] + [(0, full), (full, 0), (full, full)]:
                rule = (ahead & full, behind & full)
                self.assert_answered(text, rule, rule_by_the_words(columns, rule))

    def test_rules_that_hold_in_larger_sheets(self):
        for text in MIDDLING[:30] + LARGE[4:7]:
            things, columns, rows = table_by_the_words(text)
            for ahead, behind in least_by_the_words(rows, len(columns))[:12]:
                self.assert_answered(text, (ahead, behind), rule_by_the_words(columns, (ahead, behind)))
                more = (ahead | 1, ahead | behind)
                self.assert_answered(text, more, rule_by_the_words(columns, more))

    def test_told_lists_are_the_askers_own(self):
        told = answer_of(FRUIT, "size.40 -> red")
        told[1].clear()
        self.assertEqual(answer_of(FRUIT, "size.40 -> red"), ("follows", ["size.40 -> red size.10"]))
        self.assertEqual(len(rules_of(FRUIT)), 3)


class Judged(unittest.TestCase):
    def assert_filled(self, text, filled, rule, whole):
        """A sheet without gaps, with the same traits and things and a worth within each cell."""
        self.assertIs(type(filled), str)
        kind, traits, things = read_by_the_words(text)
        other_kind, other_traits, other_things = read_by_the_words(filled)
        self.assertEqual((other_kind, other_traits), (kind, traits))
        self.assertEqual([name for name, cells in other_things], [name for name, cells in things])
        for (name, cells), (other_name, other_cells) in zip(things, other_things):
            for (low, high), (worth, same) in zip(cells, other_cells, strict=True):
                self.assertEqual(worth, same)
                self.assertTrue(low <= worth <= high)
        self.assertIs(holds_in(table_by_the_words(filled)[2], rule), whole)

    def assert_judged(self, text, rule, written_rule, wanted):
        told = judged(text, written_rule)
        self.assertIs(type(told), tuple)
        self.assertEqual(len(told), 2)
        self.assertEqual(told[0], wanted, (text, written_rule))
        if wanted == "may":
            self.assertIs(type(told[1]), tuple)
            mended, spoilt = told[1]
            self.assert_filled(text, mended, rule, True)
            self.assert_filled(text, spoilt, rule, False)
        else:
            self.assertIsNone(told[1])

    def test_by_hand(self):
        text = "plain red\ngraded size 10 40\nthing apple y 12:50\nthing pea ? 12"
        self.assertEqual(judged(text, "red -> size.10"), ("sure", None))
        self.assertEqual(judged(text, "-> size.40"), ("never", None))
        told = judged(text, "red -> size.40")
        self.assertEqual(told[0], "may")
        self.assert_judged(text, (0b001, 0b100), "red -> size.40", "may")
        self.assertEqual(judged("plain a\nthing b ?", "-> a"), ("may", ("plain a\nthing b y", "plain a\nthing b n")))
        self.assertEqual(
            judged(f"graded a {TOP}\nthing b {TOP - 1}:{TOP}", f"-> a.{TOP}"),
            ("may", (f"graded a {TOP}\nthing b {TOP}", f"graded a {TOP}\nthing b {TOP - 1}")),
        )

    def test_no_trait_and_no_thing(self):
        self.assertEqual(judged("thing a\nthing b", "->"), ("sure", None))
        for rule in every_rule(3):
            written_rule = rule_by_the_words(["c", "a.1", "a.2"], rule)
            self.assertEqual(judged("plain c\ngraded a 1 2", written_rule), ("sure", None))

    def test_every_filling_that_matters(self):
        seen = {}
        for text in GAPPY + SMALL[:20]:
            kind, traits, things = read_by_the_words(text)
            steps, cells = [trait[2] for trait in traits], [line for name, line in things]
            columns, tables = column_names(traits), tables_of(steps, cells)
            for rule in every_rule(len(columns)):
                whole = [holds_in(rows, rule) for rows in tables]
                wanted = "sure" if all(whole) else "may" if any(whole) else "never"
                self.assert_judged(text, rule, rule_by_the_words(columns, rule), wanted)
                seen[wanted] = True
        self.assertEqual(sorted(seen), ["may", "never", "sure"])

    def test_names_in_any_order_and_more_than_once(self):
        for text in GAPPY[:30]:
            columns = column_names(read_by_the_words(text)[1])
            for rule in every_rule(len(columns)):
                first, second = side_texts(columns, rule)
                self.assertEqual(judged(text, second), judged(text, first))

    def test_sixty_things(self):
        text = "graded b 1 2 3 4\nplain a\ngraded c 5 6 7\nplain d\nplain e"
        words = ["?", "3:4", "0", "4", "2:3", "1"]
        for place, name in enumerate(thing_names(60)):
            text += f"\nthing {name} {words[place % 6]} {'y?n'[place % 3]} {place % 9} {'?y'[place % 2]} ?"
        kind, traits, things = read_by_the_words(text)
        steps, columns = [trait[2] for trait in traits], column_names(traits)
        lines = [rows_of_a_thing(steps, cells) for name, cells in things]
        sides = mixed_rows(120, 10, 9)
        rules = [(left & other, right) for left, other, right in zip(sides[::3], sides[1::3], sides[2::3])]
        seen = {}
        for rule in rules + [(1 << 9, 1), (0, 0), (1023, 0), (0b1000, 0b0111), (1, 1 << 9)]:
            if all(holds_in(rows, rule) for rows in lines):
                wanted = "sure"
            else:
                wanted = "may" if all(any(holds_in([row], rule) for row in rows) for rows in lines) else "never"
            self.assert_judged(text, rule, rule_by_the_words(columns, rule), wanted)
            seen[wanted] = True
        self.assertEqual(sorted(seen), ["may", "never", "sure"])

    def test_without_gaps(self):
        for text in SMALL:
            columns = table_by_the_words(text)[1]
            for rule in every_rule(len(columns)):
                written_rule = rule_by_the_words(columns, rule)
                whole = answer_of(text, written_rule)[0] == "follows"
                self.assertEqual(judged(text, written_rule), ("sure" if whole else "never", None))

    def test_a_gap_that_no_column_tells(self):
        self.assertEqual(judged("graded a 10\nthing b 11:12", "-> a.10"), ("sure", None))
        self.assertEqual(judged("graded a 10\nthing b 8:9", "-> a.10"), ("never", None))

    def test_what_it_tells_is_judged_alike(self):
        for text in GAPPY:
            columns = column_names(read_by_the_words(text)[1])
            for rule in every_rule(len(columns)):
                written_rule = rule_by_the_words(columns, rule)
                told = judged(text, written_rule)
                if told[0] == "may":
                    self.assertEqual(answer_of(told[1][0], written_rule)[0], "follows")
                    self.assertEqual(answer_of(told[1][1], written_rule)[0], "broken")
                    self.assertEqual(judged(told[1][0], written_rule), ("sure", None))
                    self.assertEqual(judged(told[1][1], written_rule), ("never", None))


TEN = "\n".join(f"plain {name}" for name in "abcdefghij")

# Texts at fault, most of them with a gap, too, ahead of the line at fault.
BAD_SHEETS = [
    ("", ("BadText", 1)),
    ("plain a\nthing b ?\n", ("BadText", 3)),
    ("plain a\nthing b ?\nthing c", ("BadText", 3)),
    ("plain a\nthing b ?\nplain c", ("BadText", 3)),
    ("plain a\nplain a\nthing b ?", ("Twice", 2)),
    ("plain a\nthing b ?\nthing b ?", ("Twice", 3)),
    (TEN + "\nplain k\nthing b" + " ?" * 11, ("TooLarge", 11)),
    ("plain a\n" + "\n".join(f"thing {name} ?" for name in thing_names(61)), ("TooLarge", 62)),
]
BAD_RULES = [
    ("", ("BadText", 0)),
    ("a", ("BadText", 0)),
    ("q", ("BadText", 0)),
    ("a ->  a", ("BadText", 0)),
    ("q -> r ->", ("BadText", 0)),
    ("a -> q", ("Unknown", "q")),
    ("b -> q", ("Unknown", "b")),
    ("a a.1 -> a", ("Unknown", "a.1")),
]


class Refusals(unittest.TestCase):
    def test_the_sheets_text_first(self):
        for text, wanted in BAD_SHEETS:
            self.assertEqual(refusal(ideas_of, text), wanted)
            self.assertEqual(refusal(rules_of, text), wanted)
            for rule in ["a -> a", "->"] + [rule for rule, other in BAD_RULES]:
                self.assertEqual(refusal(answer_of, text, rule), wanted)
                self.assertEqual(refusal(judged, text, rule), wanted)

    def test_then_a_gap(self):
        for text, thing in (
            ("plain a\nthing b ?", 0),
            ("plain a\nthing b y\nthing c n\nthing d ?\nthing e ?", 2),
            ("plain a\ngraded c 5\nthing b y 6:7\nthing d ? 1", 0),
            ("plain a\n" + "\n".join(f"thing {name} y" for name in thing_names(59)) + "\nthing b ?", 59),
        ):
            self.assertEqual(refusal(ideas_of, text), ("Gap", thing))
            self.assertEqual(refusal(rules_of, text), ("Gap", thing))
            for rule in ["a -> a", "->"] + [rule for rule, other in BAD_RULES]:
                self.assertEqual(refusal(answer_of, text, rule), ("Gap", thing))

    def test_then_the_rules_text(self):
        for text in ("plain a", "plain a\nthing b y", "plain a\nthing b n\nthing c y"):
            for rule, wanted in BAD_RULES:
                self.assertEqual(refusal(answer_of, text, rule), wanted)
                self.assertEqual(refusal(judged, text, rule), wanted)

    def test_judged_never_refuses_with_a_gap(self):
        for text in (
            "plain a\nthing b ?",
            "plain a\nthing b y\nthing c ?",
            "plain a\ngraded c 5\nthing b y 6:7\nthing d ? 1",
        ):
            for rule, wanted in BAD_RULES:
                self.assertEqual(refusal(judged, text, rule), wanted)
            for rule in ("->", "a -> a", "-> a", "a ->"):
                self.assertIsNone(refusal(judged, text, rule))

    def test_nothing_is_kept_from_a_refusal(self):
        def asked():
            return ideas_of(FRUIT), rules_of(FRUIT), answer_of(FRUIT, "-> red"), judged(FRUIT, "-> red")

        before = asked()
        for text, wanted in BAD_SHEETS:
            refusal(judged, text, "->")
        for rule, wanted in BAD_RULES:
            refusal(answer_of, FRUIT, rule)
        self.assertEqual(asked(), before)


if __name__ == "__main__":
    unittest.main()
