import unittest

from tests.tables import (
    TABLES,
    closed_set,
    first_unlike,
    is_broken_by,
    keeps,
    least_by_the_words,
    mixed_rows,
)
from traitlattice.errors import Against, AtEnd, BadSet, NotBroken
from traitlattice.talk import Talk

# Sets of columns of no width, with up to sixty figures.
FAR_OUT = [10**59, 10**60 - 1, (1 << 199) - 1, 1 << 10, 1 << 60]
BELOW = [-1, -2, -7, -1024, -(1 << 60), -(10**59), 1 - 10**60]

NARROW = [(rows, width) for rows, width in TABLES if width <= 6]


def asked_by_the_words(width, rules, rows):
    """Every set of columns is tried, in rising order, by the words of the document."""
    for mask in range(1 << width):
        if keeps(mask, rules):
            full = closed_set(rows, width, mask)
            if full != mask:
                return (mask, full & ~mask)
    return None


def state(talk):
    return talk.asked(), talk.rules(), talk.things()


def breaking(rows, rule):
    return [row for row in rows if is_broken_by(row, rule)]


def answer_by_the_table(talk, rows, turn=0):
    """One answer of a knower; which of the rows that break the rule is told goes by the turn."""
    rows = breaking(rows, talk.asked())
    if rows:
        talk.no(rows[turn * 7 % len(rows)])
    else:
        talk.yes()


def talked_through(talk, rows):
    turn = 0
    while talk.asked() is not None:
        answer_by_the_table(talk, rows, turn)
        turn += 1
    return talk


def talk_with_two_yeses():
    """Width 3, one known thing without columns; the rule asked is (0b100, 0b011)."""
    talk = Talk(3, [0])
    talk.yes()
    talk.yes()
    return talk


class TalkCase(unittest.TestCase):
    def assert_refused(self, error, talk, call):
        """The call is refused, and nothing is changed."""
        before = state(talk)
        with self.assertRaises(error):
            call()
        self.assertEqual(state(talk), before)

    def assert_no_is_refused(self, error, talk, rows):
        for row in rows:
            with self.subTest(row=row):
                self.assert_refused(error, talk, lambda: talk.no(row))


class Beginning(TalkCase):
    def test_without_things(self):
        for talk in (Talk(3), Talk(3, None), Talk(3, []), Talk(3, rows=None), Talk(width=3, rows=[])):
            self.assertEqual(talk.things(), [])
            self.assertEqual(talk.rules(), [])
            self.assertEqual(talk.asked(), (0, 0b111))

    def test_talks_begun_without_things_share_nothing(self):
        first = Talk(2)
        first.no(0b01)
        self.assertEqual(Talk(2).things(), [])
        self.assertEqual(Talk(2).asked(), (0, 0b11))

    def test_with_things(self):
        talk = Talk(3, [0b011, 0b110])
        self.assertEqual(talk.things(), [0b011, 0b110])
        self.assertEqual(talk.rules(), [])
        self.assertEqual(talk.asked(), (0, 0b010))

    def test_a_row_more_than_once(self):
        talk = Talk(2, [0b10, 0b01, 0b10, 0b10])
        self.assertEqual(talk.things(), [0b10, 0b01, 0b10, 0b10])
        self.assertIsNone(talk.asked())
        talk = Talk(2, [0b10, 0b10])
        self.assertEqual(talk.asked(), (0, 0b10))
        talk.no(0b01)
        self.assertEqual(talk.things(), [0b10, 0b10, 0b01])

    def test_the_list_is_copied(self):
        rows = [0b011, 0b110]
        talk = Talk(3, rows)
        rows.append(0)
        rows[0] = 0
        self.assertEqual(talk.things(), [0b011, 0b110])
        self.assertEqual(talk.asked(), (0, 0b010))
        talk.yes()
        self.assertEqual(talk.rules(), [(0, 0b010)])
        # With the changed rows the set 0b010 would not be closed.
        self.assertIsNone(talk.asked())

    def test_the_list_stays_as_it_was(self):
        rows = [0b10, 0b10]
        talk = Talk(2, rows)
        talk.no(0b01)
        self.assertEqual(rows, [0b10, 0b10])

    def test_no_columns(self):
        for talk in (Talk(0), Talk(0, [0]), Talk(0, [0] * 60)):
            self.assertIsNone(talk.asked())
            self.assertEqual(talk.rules(), [])
            self.assert_refused(AtEnd, talk, talk.yes)
            self.assert_no_is_refused(AtEnd, talk, [0, 1, -1] + FAR_OUT + BELOW)

    def test_ten_columns(self):
        talk = Talk(10)
        self.assertEqual(talk.asked(), (0, 1023))
        talk.yes()
        self.assertIsNone(talk.asked())
        self.assertEqual(talk.rules(), [(0, 1023)])

    def test_each_table_at_the_beginning(self):
        for rows, width in TABLES:
            talk = Talk(width, rows)
            self.assertEqual(talk.asked(), asked_by_the_words(width, [], rows))
            self.assertEqual(talk.things(), rows)
            self.assertEqual(talk.rules(), [])


class Asked(TalkCase):
    def test_by_hand(self):
        talk = Talk(3)
        self.assertEqual(talk.asked(), (0, 0b111))
        talk.no(0b010)
        self.assertEqual(talk.asked(), (0, 0b010))
        talk.no(0b001)
        self.assertEqual(talk.asked(), (0b011, 0b100))
        talk.yes()
        self.assertEqual(talk.asked(), (0b100, 0b011))
        talk.no(0b101)
        self.assertEqual(talk.asked(), (0b100, 0b001))
        talk.yes()
        self.assertIsNone(talk.asked())
        self.assertEqual(talk.rules(), [(0b011, 0b100), (0b100, 0b001)])
        self.assertEqual(talk.things(), [0b010, 0b001, 0b101])

    def assert_told_by_the_words(self, talk, width):
        wanted = asked_by_the_words(width, talk.rules(), talk.things())
        self.assertEqual(talk.asked(), wanted)
        self.assertEqual(talk.asked(), wanted)

    def test_at_each_turn_with_a_knower(self):
        for rows, width in TABLES:
            talk = Talk(width)
            turn = 0
            self.assert_told_by_the_words(talk, width)
            while talk.asked() is not None:
                answer_by_the_table(talk, rows, turn)
                turn += 1
                self.assert_told_by_the_words(talk, width)

    def assert_any_answers_do(self, width, start, seed):
        """Yes or any row that is let in, as chance will have it."""
        chance = mixed_rows(2000, 20, seed)
        talk = Talk(width, start)
        self.assert_told_by_the_words(talk, width)
        while talk.asked() is not None and len(talk.things()) < 60:
            draw = chance.pop()
            rule, rules = talk.asked(), talk.rules()
            rows = [row for row in range(1 << width) if is_broken_by(row, rule) and keeps(row, rules)]
            # The set asked keeps the rules said yes to, and so can always be told.
            self.assertIn(rule[0], rows)
            if draw % 3 == 0:
                talk.yes()
                self.assertEqual(talk.rules(), rules + [rule])
            else:
                row = rows[draw // 3 % len(rows)]
                things = talk.things()
                talk.no(row)
                self.assertEqual(talk.things(), things + [row])
            self.assert_told_by_the_words(talk, width)

    def test_at_each_turn_whatever_was_answered(self):
        for seed in range(60):
            width = seed % 6
            self.assert_any_answers_do(width, mixed_rows(seed % 4, width, seed), seed)
        self.assert_any_answers_do(8, None, 60)
        self.assert_any_answers_do(10, mixed_rows(3, 10, 61), 61)

    def test_the_set_asked_told_as_a_thing(self):
        talk = Talk(4)
        while talk.asked() is not None:
            talk.no(talk.asked()[0])
            self.assert_told_by_the_words(talk, 4)
        self.assertEqual(talk.things(), list(range(15)))

    def test_nothing_but_yes(self):
        for rows, width in TABLES:
            talk = Talk(width, rows)
            while talk.asked() is not None:
                talk.yes()
            self.assertIsNone(first_unlike(talk.rules(), least_by_the_words(rows, width)))
            self.assertEqual(talk.things(), rows)

    def test_no_paper_for_it_and_no_known_thing_breaks_it(self):
        for rows, width in TABLES:
            talk = Talk(width, rows[:2])
            turn = 0
            while talk.asked() is not None:
                mask, more = talk.asked()
                self.assertEqual(mask & more, 0)
                self.assertNotEqual(more, 0)
                self.assertTrue(keeps(mask, talk.rules()))
                self.assertEqual(breaking(talk.things(), (mask, more)), [])
                answer_by_the_table(talk, rows, turn)
                turn += 1

    def test_the_masks_never_fall(self):
        for rows, width in TABLES:
            talk = Talk(width)
            masks = []
            while talk.asked() is not None:
                masks.append(talk.asked()[0])
                answer_by_the_table(talk, rows, len(masks))
            self.assertEqual(masks, sorted(masks))

    def test_asking_changes_nothing(self):
        for talk in (Talk(3), talk_with_two_yeses(), Talk(0)):
            before = state(talk)
            for _ in range(5):
                self.assertEqual(talk.asked(), before[0])
            self.assertEqual(state(talk), before)

    def test_kinds(self):
        talk = Talk(3, [0])
        talk.yes()
        self.assertIs(type(talk.asked()), tuple)
        self.assertEqual([type(side) for side in talk.asked()], [int, int])
        self.assertIs(type(talk.rules()), list)
        self.assertEqual([type(rule) for rule in talk.rules()], [tuple])
        self.assertEqual([type(side) for side in talk.rules()[0]], [int, int])
        self.assertIs(type(talk.things()), list)
        self.assertEqual([type(row) for row in talk.things()], [int])


class Refusals(TalkCase):
    def test_the_example(self):
        talk = talk_with_two_yeses()
        self.assertEqual(state(talk), ((0b100, 0b011), [(0b001, 0b110), (0b010, 0b101)], [0]))

    def test_at_the_end(self):
        for talk in (Talk(0), Talk(1, [0, 1]), talked_through(Talk(3), [0b011, 0b110])):
            self.assertIsNone(talk.asked())
            self.assert_refused(AtEnd, talk, talk.yes)
            self.assert_no_is_refused(AtEnd, talk, [0, 1, 0b111] + FAR_OUT + BELOW)
            self.assert_refused(AtEnd, talk, talk.yes)

    def test_at_the_end_comes_before_all_others(self):
        talk = talk_with_two_yeses()
        talk.yes()
        self.assertIsNone(talk.asked())
        # Neither a set of columns; nor one that breaks a rule; nor one that goes with the yeses.
        self.assert_no_is_refused(AtEnd, talk, [8, -1, 0b111, 0, 0b001, 0b011])

    def test_a_row_that_is_no_set_of_columns(self):
        self.assert_no_is_refused(BadSet, talk_with_two_yeses(), FAR_OUT + BELOW + [8, 15, 9])
        self.assert_no_is_refused(BadSet, Talk(10), FAR_OUT + BELOW)
        self.assert_no_is_refused(BadSet, Talk(1), FAR_OUT + BELOW + [2, 3])

    def test_bad_set_comes_before_not_broken_and_against(self):
        talk = talk_with_two_yeses()
        rule, rules = talk.asked(), talk.rules()
        for row in range(8):
            for extra in (8, 8 << 60, 1 << 198, -8, -8 << 60, -(1 << 198)):
                self.assert_no_is_refused(BadSet, talk, [row + extra])
        # So rows of each kind were among them.
        self.assertTrue(any(not is_broken_by(row, rule) for row in range(8)))
        self.assertTrue(any(is_broken_by(row, rule) and not keeps(row, rules) for row in range(8)))
        self.assertTrue(any(is_broken_by(row, rule) and keeps(row, rules) for row in range(8)))

    def test_a_row_that_does_not_break_the_rule_asked(self):
        self.assert_no_is_refused(NotBroken, Talk(3), [0b111])
        self.assert_no_is_refused(NotBroken, Talk(3, [0]), [0, 0b010, 0b110, 0b111])

    def test_not_broken_comes_before_against(self):
        talk = talk_with_two_yeses()
        # Not broken by the lack of what is ahead, or by having all of behind; the
        # first three break a rule said yes to.
        self.assert_no_is_refused(NotBroken, talk, [0b001, 0b010, 0b011, 0, 0b111])
        self.assertFalse(keeps(0b001, talk.rules()))
        self.assertFalse(keeps(0b010, talk.rules()))
        self.assertFalse(keeps(0b011, talk.rules()))

    def test_a_row_that_breaks_a_rule_said_yes_to(self):
        # The first and the last of the rules said yes to.
        self.assert_no_is_refused(Against, talk_with_two_yeses(), [0b101, 0b110])

    def test_the_talk_goes_on_behind_a_refusal(self):
        talk = talk_with_two_yeses()
        for row in [8, -1, 0b111, 0b101] + FAR_OUT + BELOW:
            with self.assertRaises((BadSet, NotBroken, Against)):
                talk.no(row)
        talk.no(0b100)
        self.assertEqual(talk.things(), [0, 0b100])
        self.assertEqual(talk.rules(), [(0b001, 0b110), (0b010, 0b101)])
        self.assertIsNone(talk.asked())

    def test_every_row_at_every_turn(self):
        for rows, width in NARROW[::5]:
            talk = Talk(width)
            while talk.asked() is not None:
                rule, rules = talk.asked(), talk.rules()
                for row in range(-4, (1 << width) + 4):
                    if not 0 <= row < 1 << width:
                        self.assert_no_is_refused(BadSet, talk, [row])
                    elif not is_broken_by(row, rule):
                        self.assert_no_is_refused(NotBroken, talk, [row])
                    elif not keeps(row, rules):
                        self.assert_no_is_refused(Against, talk, [row])
                answer_by_the_table(talk, rows)


class WholeTalk(TalkCase):
    def assert_found(self, talk, rows, width):
        self.assertIsNone(talk.asked())
        self.assertIsNone(first_unlike(talk.rules(), least_by_the_words(rows, width)))
        known = talk.things()
        for mask in range(1 << width):
            self.assertEqual(closed_set(known, width, mask), closed_set(rows, width, mask))

    def test_with_each_knower(self):
        for rows, width in TABLES:
            talk = talked_through(Talk(width), rows)
            self.assert_found(talk, rows, width)
            self.assertTrue(set(talk.things()) <= set(rows))

    def test_with_things_known_from_the_start(self):
        for rows, width in TABLES:
            start = rows[:1] * 2 + rows[-2:]
            talk = talked_through(Talk(width, start), rows)
            self.assert_found(talk, rows, width)
            self.assertEqual(talk.things()[: len(start)], start)
        for rows, width in TABLES:
            self.assert_found(talked_through(Talk(width, rows), rows), rows, width)

    def test_a_knower_who_knows_nothing(self):
        self.assertEqual(talked_through(Talk(10), []).rules(), [(0, 1023)])
        self.assertEqual(talked_through(Talk(10, [1023]), [1023]).rules(), [(0, 1023)])

    def test_sixty_things(self):
        rows = [mask for mask in range(1024) if bin(mask).count("1") == 9] * 6
        talk = talked_through(Talk(10, rows[:50]), rows)
        self.assert_found(talk, rows, 10)
        rows = [1 << place for place in range(10)] + [0]
        talk = talked_through(Talk(10, [0] * 50), rows)
        self.assertEqual(len(talk.things()), 60)
        self.assert_found(talk, rows, 10)

    def test_somewhat_beyond_the_bounds(self):
        rows = mixed_rows(70, 11, 7)
        self.assert_found(talked_through(Talk(11, rows[:65]), rows), rows, 11)
        self.assertEqual(talked_through(Talk(12), []).rules(), [(0, 4095)])


class Kept(TalkCase):
    def test_told_lists_are_the_askers_own(self):
        talk = talk_with_two_yeses()
        before = state(talk)
        for told in (talk.rules(), talk.things()):
            told.reverse()
            told.append(None)
            told[0] = None
            self.assertEqual(state(talk), before)
        talk.no(0b100)
        self.assertEqual(talk.things(), [0, 0b100])
        self.assertEqual(talk.rules(), before[1])

    def test_told_lists_that_are_changed_change_no_later_question(self):
        talk = Talk(3, [0b011])
        talk.things().clear()
        self.assertEqual(talk.asked(), (0, 0b011))
        talk.yes()
        talk.rules().clear()
        talk.things().append(0)
        self.assertIsNone(talk.asked())
        talk = Talk(2, [0])
        talk.things().append(0b01)
        talk.yes()
        talk.rules()[0] = (0, 0b11)
        talk.things().clear()
        self.assertEqual(talk.asked(), (0b10, 0b01))
        with self.assertRaises(NotBroken):
            talk.no(0b01)
        talk.no(0b10)
        self.assertIsNone(talk.asked())

    def test_nothing_done_later_changes_told_lists(self):
        talk = Talk(3, [0])
        rules, things = talk.rules(), talk.things()
        talk.yes()
        later = talk.rules()
        talk.no(0b010)
        self.assertEqual((rules, things, later), ([], [0], [(0b001, 0b110)]))

    def test_two_talks_share_nothing(self):
        rows = [0]
        one, other = Talk(3, rows), Talk(3, rows)
        one.yes()
        one.no(0b010)
        self.assertEqual(state(other), ((0b001, 0b110), [], [0]))
        self.assertEqual(rows, [0])


if __name__ == "__main__":
    unittest.main()
