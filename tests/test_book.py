import unittest

from tests.tables import first_unlike, ideas_by_the_words, mixed_rows, rows_lacking_one
from traitlattice.book import Book
from traitlattice.errors import BadSet, OutOfPlace, TooLarge

# Whole numbers of up to sixty figures, on either side of every set and place.
FAR_OUT = [1 << 60, 1 << 64, 1 << 198, 10**59, 10**60 - 1]
BELOW = [-1, -2, -10, -60, -1024, -(1 << 60), -(1 << 64), -(10**59), 1 - 10**60]


class PlainBook:
    """The same table kept another way: for each thing a list of True and False by columns."""

    def __init__(self, width):
        self.many = width
        self.lines = []

    def put_thing(self, row):
        self.lines.append([bool(row & 1 << column) for column in range(self.many)])

    def take_thing(self, place):
        del self.lines[place]

    def put_column(self, group):
        for thing, line in enumerate(self.lines):
            line.append(bool(group & 1 << thing))
        self.many += 1

    def take_column(self, place):
        for line in self.lines:
            del line[place]
        self.many -= 1

    def rows(self):
        return [sum(1 << column for column, has in enumerate(line) if has) for line in self.lines]

    def width(self):
        return self.many


def book_of(rows, width):
    book = Book(width)
    for row in rows:
        book.put_thing(row)
    return book


def state(book):
    return book.rows(), book.width(), book.ideas()


class BookCase(unittest.TestCase):
    def assert_holds(self, book, rows, width):
        self.assertEqual(book.rows(), rows)
        self.assertEqual(book.width(), width)
        self.assertIsNone(first_unlike(book.ideas(), ideas_by_the_words(rows, width)))

    def assert_refused(self, error, book, deed, numbers):
        """Each number is refused, and nothing is changed."""
        before = state(book)
        for number in numbers:
            with self.subTest(number=number):
                with self.assertRaises(error) as taken:
                    deed(number)
                if error is TooLarge:
                    self.assertEqual(taken.exception.line, 0)
                    self.assertIs(type(taken.exception.line), int)
                self.assertTrue(state(book) == before)

    def assert_goes_alike(self, width, deeds):
        """Behind each deed, a pair of a method's name and a number, the book is as it should be."""
        book, plain = Book(width), PlainBook(width)
        for name, number in deeds:
            getattr(book, name)(number)
            getattr(plain, name)(number)
            self.assert_holds(book, plain.rows(), plain.width())


class Beginning(BookCase):
    def test_no_things(self):
        for width in range(11):
            self.assert_holds(Book(width), [], width)
        self.assertEqual(Book(0).ideas(), [(0, 0)])
        self.assertEqual(Book(10).ideas(), [(0, 1023)])
        self.assertEqual(Book(width=3).width(), 3)

    def test_two_books_share_nothing(self):
        one, other = Book(2), Book(2)
        one.put_thing(1)
        one.put_column(1)
        self.assert_holds(other, [], 2)


class Things(BookCase):
    def test_put_behind_the_last_one(self):
        book = Book(3)
        book.put_thing(0b011)
        self.assert_holds(book, [0b011], 3)
        book.put_thing(0b110)
        self.assert_holds(book, [0b011, 0b110], 3)
        book.put_thing(0b011)
        self.assert_holds(book, [0b011, 0b110, 0b011], 3)
        book.put_thing(0)
        book.put_thing(0b111)
        self.assert_holds(book, [0b011, 0b110, 0b011, 0, 0b111], 3)

    def test_ideas_by_hand(self):
        book = book_of([0b01, 0b10], 2)
        self.assertEqual(book.ideas(), [(0b11, 0), (0b01, 0b01), (0b10, 0b10), (0, 0b11)])
        book.take_thing(0)
        self.assertEqual(book.ideas(), [(0b1, 0b10), (0, 0b11)])

    def test_taken_at_each_place(self):
        rows = [0b011, 0b110, 0b011, 0b000, 0b101]
        for place in range(5):
            book = book_of(rows, 3)
            book.take_thing(place)
            self.assert_holds(book, rows[:place] + rows[place + 1 :], 3)

    def test_all_taken(self):
        for place in (0, -1):
            book = book_of([1, 2, 3], 2)
            for many in (3, 2, 1):
                book.take_thing(place % many)
            self.assert_holds(book, [], 2)
            self.assert_refused(OutOfPlace, book, book.take_thing, [0])

    def test_put_behind_a_taken_one(self):
        book = book_of([1, 2, 3], 2)
        book.take_thing(1)
        book.put_thing(0)
        self.assert_holds(book, [1, 3, 0], 2)

    def test_no_columns(self):
        book = Book(0)
        for many in range(1, 61):
            book.put_thing(0)
            self.assertEqual(book.ideas(), [((1 << many) - 1, 0)])
        self.assert_holds(book, [0] * 60, 0)
        for place in (59, 0, 30):
            book.take_thing(place)
        self.assert_holds(book, [0] * 57, 0)

    def test_sixty_things(self):
        rows = mixed_rows(60, 10, 1)
        for place in (0, 31, 59):
            book = book_of(rows, 10)
            self.assert_holds(book, rows, 10)
            self.assert_refused(TooLarge, book, book.put_thing, [0, 1023])
            book.take_thing(place)
            rest = rows[:place] + rows[place + 1 :]
            self.assert_holds(book, rest, 10)
            book.put_thing(7)
            self.assert_holds(book, rest + [7], 10)
            self.assert_refused(TooLarge, book, book.put_thing, [7])


class Columns(BookCase):
    def test_put_behind_the_last_one(self):
        book = book_of([0b01, 0b10, 0b11], 2)
        book.put_column(0b101)
        self.assert_holds(book, [0b101, 0b010, 0b111], 3)
        book.put_column(0)
        self.assert_holds(book, [0b0101, 0b0010, 0b0111], 4)
        book.put_column(0b111)
        self.assert_holds(book, [0b10101, 0b10010, 0b10111], 5)

    def test_put_with_no_things(self):
        book = Book(0)
        for width in range(1, 11):
            book.put_column(0)
            self.assert_holds(book, [], width)
        self.assert_refused(TooLarge, book, book.put_column, [0])

    def test_put_into_a_book_without_columns(self):
        book = book_of([0, 0, 0], 0)
        book.put_column(0b110)
        self.assert_holds(book, [0, 1, 1], 1)

    def test_the_first_and_the_last_thing_of_sixty(self):
        book = book_of([0] * 60, 1)
        book.put_column((1 << 59) | 1)
        self.assert_holds(book, [2] + [0] * 58 + [2], 2)
        book.put_column((1 << 60) - 1)
        self.assert_holds(book, [6] + [4] * 58 + [6], 3)

    def test_taken_at_each_place(self):
        rows = [0b0101, 0b1010, 0b1111, 0b0110, 0]
        wanted = [
            [0b010, 0b101, 0b111, 0b011, 0],
            [0b011, 0b100, 0b111, 0b010, 0],
            [0b001, 0b110, 0b111, 0b010, 0],
            [0b101, 0b010, 0b111, 0b110, 0],
        ]
        for place in range(4):
            book = book_of(rows, 4)
            book.take_column(place)
            self.assert_holds(book, wanted[place], 3)

    def test_all_taken(self):
        for place in (0, -1):
            book = book_of([0b011, 0b110], 3)
            for many in (3, 2, 1):
                book.take_column(place % many)
            self.assert_holds(book, [0, 0], 0)
            self.assert_refused(OutOfPlace, book, book.take_column, [0])

    def test_put_behind_a_taken_one(self):
        book = book_of([0b11, 0b10], 2)
        book.take_column(0)
        book.put_column(0b10)
        self.assert_holds(book, [0b01, 0b11], 2)
        book.put_thing(0b10)
        self.assert_refused(BadSet, book, book.put_thing, [0b100])

    def test_ten_columns(self):
        rows = mixed_rows(60, 10, 2)
        for place in (0, 4, 9):
            book = book_of(rows, 10)
            self.assert_refused(TooLarge, book, book.put_column, [0, (1 << 60) - 1])
            plain = PlainBook(10)
            for row in rows:
                plain.put_thing(row)
            book.take_column(place)
            plain.take_column(place)
            self.assert_holds(book, plain.rows(), 9)
            book.put_column(1 << 59)
            plain.put_column(1 << 59)
            self.assert_holds(book, plain.rows(), 10)
            self.assert_refused(TooLarge, book, book.put_column, [0])


def mixed_deeds(many, width, seed):
    """Deeds that follow no plain pattern, each of them let in."""
    deeds, things = [], 0
    for draw in mixed_rows(many, 40, seed):
        number = draw >> 4
        allowed = [("put_thing", 1 << width)] * 3 * (things < 60) + [("take_thing", things)] * (things > 0)
        allowed += [("put_column", 1 << things)] * (width < 10) + [("take_column", width)] * (width > 0)
        name, bound = allowed[draw % 16 % len(allowed)]
        deeds.append((name, number * 2654435761 % bound))
        things += {"put_thing": 1, "take_thing": -1}.get(name, 0)
        width += {"put_column": 1, "take_column": -1}.get(name, 0)
    return deeds


class ManyDeeds(BookCase):
    def test_one_of_each(self):
        self.assert_goes_alike(
            2,
            [
                ("put_thing", 0b01),
                ("put_thing", 0b10),
                ("put_column", 0b10),
                ("put_thing", 0b111),
                ("take_column", 0),
                ("put_thing", 0b10),
                ("take_thing", 1),
                ("put_column", 0b101),
                ("take_column", 2),
                ("take_thing", 0),
                ("take_column", 1),
                ("take_column", 0),
                ("put_column", 0b01),
            ],
        )

    def test_in_any_order(self):
        for seed in range(30):
            self.assert_goes_alike(seed % 11, mixed_deeds(60, seed % 11, seed))

    def test_many_things(self):
        deeds = mixed_deeds(400, 5, 77)
        self.assertEqual({name for name, number in deeds}, {"put_thing", "take_thing", "put_column", "take_column"})
        self.assert_goes_alike(5, deeds)

    def test_as_many_ideas_as_can_be(self):
        book = book_of(rows_lacking_one(60, 10), 10)
        self.assert_holds(book, rows_lacking_one(60, 10), 10)
        book.take_column(5)
        self.assertEqual(len(book.ideas()), 512)

    def test_somewhat_beyond_the_bounds(self):
        book = book_of([0b100000000001, 0], 12)
        self.assert_holds(book, [0b100000000001, 0], 12)
        self.assert_refused(TooLarge, book, book.put_column, [0])
        book.take_column(0)
        self.assert_holds(book, [0b10000000000, 0], 11)


class Refusals(BookCase):
    def test_rows(self):
        for width, beyond in ((0, [1, 2]), (3, [8, 9, 15, 16]), (10, [1024, 1025, 2047])):
            for rows in ([], [0], [0] * 59):
                book = book_of(rows, width)
                self.assert_refused(BadSet, book, book.put_thing, beyond + FAR_OUT + BELOW)

    def test_groups(self):
        for many, beyond in ((0, [1, 2]), (3, [8, 9, 15]), (60, [1 << 60, (1 << 60) + 1, (1 << 61) - 1])):
            for width in (0, 9):
                book = book_of([0] * many, width)
                self.assert_refused(BadSet, book, book.put_column, beyond + FAR_OUT + BELOW)

    def test_places_of_things(self):
        for many in (0, 1, 3, 60):
            book = book_of([1] * many, 2)
            self.assert_refused(OutOfPlace, book, book.take_thing, [many, many + 1] + FAR_OUT + BELOW)

    def test_places_of_columns(self):
        for width in (0, 1, 3, 10):
            book = book_of([0] * 4, width)
            self.assert_refused(OutOfPlace, book, book.take_column, [width, width + 1] + FAR_OUT + BELOW)

    def test_a_place_below_is_refused_where_a_list_would_take_it(self):
        book = book_of([1, 2, 3], 2)
        self.assert_refused(OutOfPlace, book, book.take_thing, [-1, -2, -3])
        self.assert_refused(OutOfPlace, book, book.take_column, [-1, -2])

    def test_too_large_comes_before_bad_set(self):
        book = book_of([0] * 60, 3)
        self.assert_refused(TooLarge, book, book.put_thing, [0, 7, 8] + FAR_OUT + BELOW)
        book = book_of([0] * 4, 10)
        self.assert_refused(TooLarge, book, book.put_column, [0, 15, 16] + FAR_OUT + BELOW)

    def test_sixty_things_and_ten_columns_go(self):
        book = book_of([0] * 59, 9)
        book.put_thing(511)
        book.put_column(1 << 59)
        self.assert_holds(book, [0] * 59 + [1023], 10)

    def test_sixty_things_leave_room_for_columns_and_the_other_way_about(self):
        book = book_of([0] * 60, 0)
        book.put_column(0)
        self.assert_holds(book, [0] * 60, 1)
        book = Book(10)
        book.put_thing(1023)
        self.assert_holds(book, [1023], 10)

    def test_the_book_goes_on_behind_a_refusal(self):
        book = book_of([0b01, 0b10], 2)
        for deed, error in (
            (book.put_thing, BadSet),
            (book.put_column, BadSet),
            (book.take_thing, OutOfPlace),
            (book.take_column, OutOfPlace),
        ):
            self.assert_refused(error, book, deed, FAR_OUT + BELOW)
        book.put_thing(0b11)
        book.put_column(0b011)
        book.take_thing(0)
        book.take_column(1)
        self.assert_holds(book, [0b10, 0b01], 2)


class Kept(BookCase):
    def test_told_lists_are_the_askers_own(self):
        book = book_of([0b01, 0b10], 2)
        before = state(book)
        for told in (book.rows(), book.ideas()):
            told.reverse()
            told.append(None)
            told[0] = None
            self.assertEqual(state(book), before)
        book.rows().clear()
        book.ideas().clear()
        book.put_thing(0b11)
        book.put_column(0b100)
        self.assert_holds(book, [0b01, 0b10, 0b111], 3)

    def test_nothing_done_later_changes_told_lists(self):
        book = book_of([0b01, 0b10], 2)
        rows, ideas = book.rows(), book.ideas()
        kept = list(rows), list(ideas)
        book.put_thing(0b11)
        self.assertEqual((rows, ideas), kept)
        book.put_column(0b111)
        self.assertEqual((rows, ideas), kept)
        book.take_column(0)
        book.take_thing(0)
        self.assertEqual((rows, ideas), kept)

    def test_asking_changes_nothing(self):
        book = book_of([0b01, 0b10], 2)
        self.assertEqual(state(book), state(book))

    def test_kinds(self):
        book = book_of([0b01], 2)
        book.put_column(1)
        self.assertIs(type(book.rows()), list)
        self.assertEqual([type(row) for row in book.rows()], [int])
        self.assertIs(type(book.width()), int)
        self.assertIs(type(book.ideas()), list)
        for idea in book.ideas():
            self.assertIs(type(idea), tuple)
            self.assertEqual([type(part) for part in idea], [int, int])


if __name__ == "__main__":
    unittest.main()
