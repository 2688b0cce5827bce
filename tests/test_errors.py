import unittest

from traitlattice.errors import (
    Against,
    AtEnd,
    BadSet,
    BadText,
    Gap,
    NotBroken,
    OutOfPlace,
    TooLarge,
    TraitError,
    Twice,
    Unknown,
    Unlike,
)

LINED = [BadText, Twice, TooLarge]
BARE = [AtEnd, BadSet, NotBroken, Against, OutOfPlace, Unlike]


def one_of_each():
    return (
        [kind(3) for kind in LINED]
        + [Unknown("size.40"), Gap(2)]
        + [kind() for kind in BARE]
    )


class Fields(unittest.TestCase):
    def test_a_line_is_borne_as_it_was_handed_in(self):
        for kind in LINED:
            for line in (0, 1, 2, 61, 10**60):
                with self.subTest(kind=kind.__name__, line=line):
                    refusal = kind(line)
                    self.assertEqual(refusal.line, line)
                    self.assertIs(type(refusal.line), int)

    def test_a_word_is_borne_as_it_was_handed_in(self):
        for word in ("red", "size.40", "x" * 60, "7", ""):
            with self.subTest(word=word):
                self.assertEqual(Unknown(word).word, word)
                self.assertIs(type(Unknown(word).word), str)

    def test_a_thing_is_borne_as_it_was_handed_in(self):
        for thing in (0, 1, 59):
            with self.subTest(thing=thing):
                self.assertEqual(Gap(thing).thing, thing)
                self.assertIs(type(Gap(thing).thing), int)

    def test_each_object_has_its_own_field(self):
        first, second = BadText(1), BadText(2)
        self.assertEqual((first.line, second.line), (1, 2))

    def test_no_field_where_nothing_was_handed_in_for_it(self):
        for kind in LINED + [Unknown, Gap]:
            with self.subTest(kind=kind.__name__):
                with self.assertRaises(TypeError):
                    kind()

    def test_the_field_is_there_when_the_refusal_is_taken(self):
        try:
            raise Twice(7)
        except TraitError as refusal:
            self.assertEqual(refusal.line, 7)


class Kinds(unittest.TestCase):
    def test_all_are_told_apart(self):
        kinds = [type(refusal) for refusal in one_of_each()]
        self.assertEqual(len(set(kinds)), 11)
        self.assertNotIn(TraitError, kinds)

    def test_trait_error_stands_straight_under_value_error(self):
        self.assertEqual(TraitError.__bases__, (ValueError,))

    def test_each_stands_straight_under_trait_error(self):
        for refusal in one_of_each():
            with self.subTest(kind=type(refusal).__name__):
                self.assertEqual(type(refusal).__bases__, (TraitError,))

    def test_none_is_another_one(self):
        refusals = one_of_each()
        for refusal in refusals:
            kin = [type(other) for other in refusals if isinstance(refusal, type(other))]
            self.assertEqual(kin, [type(refusal)])

    def test_each_is_taken_by_its_own_name_and_by_those_above(self):
        for refusal in one_of_each():
            for kind in (type(refusal), TraitError, ValueError):
                with self.subTest(refusal=type(refusal).__name__, kind=kind.__name__):
                    with self.assertRaises(kind):
                        raise refusal

    def test_names(self):
        names = sorted(type(refusal).__name__ for refusal in one_of_each())
        self.assertEqual(
            names,
            [
                "Against",
                "AtEnd",
                "BadSet",
                "BadText",
                "Gap",
                "NotBroken",
                "OutOfPlace",
                "TooLarge",
                "Twice",
                "Unknown",
                "Unlike",
            ],
        )


if __name__ == "__main__":
    unittest.main()
