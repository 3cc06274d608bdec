"""[40] and of [42] right_book: what a row of a book is, what is torn, and which of two books is right."""

import unittest

from sherdhall.book import is_row, is_torn, right_book
from sherdhall.errors import NoBook
from samples import NO_SHAPES, NO_WHOLES, SHAPES, kinds
from oracle import begin, drawn_book, row

PLACES = [chr(97 + at) + chr(97 + other) for at in range(5) for other in range(5)]
BEGUN = begin(4, "name", length=9)
ROWS = [BEGUN, row("root", 4, 7), row("drop", "name", 7), row("moved", 4, 2, "house"), row("floor", 3),
        row("book", 2, 5, 6, 3), row("ready", 2)]
NO_NAMES = ["", "A", "a1", "a b", "abcdefghi", " a", "a\n", "\u00e4", "\u0430", "-", 5, None, True, b"a", ["a"], ("a",)]
FIRST = (6, "book", 1, 1, 1, 0)


def otherwise(old, at, member):
    """The row with another member there."""
    return old[:at] + (member,) + old[at + 1:]


class Rows(unittest.TestCase):

    def no_row(self, thing):
        self.assertIs(is_row(thing), False, thing)

    def test_rows_of_all_seven_words(self):
        for one in ROWS:
            self.assertIs(is_row(one), True, one)

    def test_begin_rows_of_every_shape(self):
        for shape in SHAPES:
            many = len(kinds(shape))
            self.assertIs(is_row(begin(1, "a", shape=shape, homes=PLACES[:many])), True, shape)
            self.no_row(begin(1, "a", shape=shape, homes=PLACES[:many + 1]))
            self.no_row(begin(1, "a", shape=shape, homes=PLACES[:many - 1]))
            self.no_row(begin(1, "a", shape=shape, homes=PLACES[:many - 1] + [PLACES[0]]))

    def test_edges(self):
        for length in (0, 1, 59, 60):
            self.assertIs(is_row(begin(1, "a", length=length)), True)
        for one in (begin(1, "z"), begin(10 ** 59, "abcdefgh"), row("root", 1, 1), row("root", 10 ** 59, 10 ** 59),
                    row("drop", "a", 1), row("moved", 1, 0, "a"), row("moved", 1, 21, "a"), row("floor", 0),
                    row("book", 1, 1, 1, 0), row("book", 9, 9, 9, 9), row("ready", 1), row("floor", 10 ** 59)):
            self.assertIs(is_row(one), True, one)

    def test_anything_else(self):
        for thing in NO_WHOLES + [1, (), (1,), (2, "ready"), (2, "root"), (2, "begin"), (2, 2), "ready", (3,), (0,)]:
            self.no_row(thing)

    def test_lists_are_no_rows(self):
        for one in ROWS:
            self.no_row(list(one))
            self.no_row(otherwise(one, 1, [one[1]]))

    def test_the_first_member_is_how_many_they_are(self):
        for one in ROWS:
            for many in (len(one) - 1, len(one) + 1, 0, -len(one), None, True, str(len(one)), float(len(one)), [1]):
                self.no_row(otherwise(one, 0, many))

    def test_a_member_too_many_or_too_few(self):
        for one in ROWS:
            for other in (one + (1,), one + ("a",), one[:-1]):
                self.no_row(other)
                self.no_row((len(other),) + other[1:])

    def test_another_word(self):
        words = ["begin", "root", "drop", "moved", "floor", "book", "ready"]
        for one in ROWS:
            for word in ["", "Root", "roots", "row", 5, None, True, b"root", ("root",), ["root"], {}]:
                self.no_row(otherwise(one, 1, word))
            for word in words:
                # A floor row and a ready row both have one number.
                if word != one[1] and {word, one[1]} != {"floor", "ready"}:
                    self.no_row(otherwise(one, 1, word))

    def test_a_truth_or_another_thing_for_a_number(self):
        numbers = [(BEGUN, (2, 4, 5, 6, 7)), (ROWS[1], (2, 3)), (ROWS[2], (3,)), (ROWS[3], (2, 3)), (ROWS[4], (2,)),
                   (ROWS[5], (2, 3, 4, 5)), (ROWS[6], (2,))]
        for one, places in numbers:
            for at in places:
                for thing in NO_WHOLES + ["a", -1, -10 ** 59]:
                    self.no_row(otherwise(one, at, thing))

    def test_from_one_on(self):
        for one, places in ((BEGUN, (2,)), (ROWS[1], (2, 3)), (ROWS[2], (3,)), (ROWS[3], (2,)), (ROWS[5], (2, 3, 4)),
                            (ROWS[6], (2,))):
            for at in places:
                self.no_row(otherwise(one, at, 0))

    def test_lengths_beyond(self):
        for length in (-1, 61, 10 ** 9):
            self.no_row(begin(1, "a", length=length))

    def test_a_name_that_is_none(self):
        for one, places in ((BEGUN, (3, 8, 9, 10)), (ROWS[2], (2,)), (ROWS[3], (4,))):
            for at in places:
                for name in NO_NAMES:
                    self.no_row(otherwise(one, at, name))

    def test_a_shape_that_is_none(self):
        for thing in NO_SHAPES:
            if isinstance(thing, tuple) and len(thing) == 3:
                self.no_row(BEGUN[:5] + thing + BEGUN[8:])

    def test_a_home_twice(self):
        for homes in (("ha", "ha", "hc"), ("ha", "hb", "ha"), ("ha", "hb", "hb")):
            self.no_row(begin(4, "name", homes=homes))
        self.assertIs(is_row(begin(4, "ha", homes=("ha", "hb", "hc"))), True)


class Torn(unittest.TestCase):

    def test_each_part_of_a_row_is_torn_and_no_row(self):
        for one in ROWS:
            for many in range(1, len(one)):
                self.assertIs(is_torn(one[:many]), True)
                self.assertIs(is_row(one[:many]), False)

    def test_whole_rows_are_not_torn(self):
        for one in ROWS:
            self.assertIs(is_torn(one), False)
            self.assertIs(is_torn(one + (1,)), False)

    def test_edges(self):
        self.assertIs(is_torn((2,)), True)
        self.assertIs(is_torn((1,)), False)
        self.assertIs(is_torn((0,)), False)
        self.assertIs(is_torn((-5,)), False)
        self.assertIs(is_torn((10 ** 59, None)), True)
        self.assertIs(is_torn((3, 5)), True)
        for thing in ((), (True,), ("a",), (None, 1), ("ready", 1), [2], [3, "ready"], "ab", None, 5):
            self.assertIs(is_torn(thing), False)


class RightBook(unittest.TestCase):

    def no_book(self, books):
        with self.assertRaises(NoBook) as caught:
            right_book(books)
        self.assertEqual(caught.exception.at, 0)

    def test_none(self):
        self.no_book([[], []])
        self.no_book([[FIRST], []])
        self.no_book([[row("ready", 1)], [FIRST]])
        self.no_book([[FIRST, row("ready", 2)], [row("ready", 1), FIRST]])

    def test_one(self):
        right = [FIRST, row("ready", 1)]
        self.assertEqual(right_book([right, []]), 0)
        self.assertEqual(right_book([[], right]), 1)
        self.assertEqual(right_book([[row("book", 9, 1, 1, 0)], right]), 1)
        self.assertEqual(right_book([right, [row("book", 2, 1, 1, 0), row("ready", 1)]]), 0)
        self.assertEqual(right_book([right, [row("book", 2, 1, 1, 0), (3, "ready")]]), 0)

    def test_both(self):
        for one, other, due in ((1, 2, 1), (2, 1, 0), (9, 10, 1), (10, 9, 0), (10 ** 59, 10 ** 58, 0), (3, 3, 0)):
            books = [[row("book", age, 1, 1, 0), row("ready", age)] for age in (one, other)]
            self.assertEqual(right_book(books), due)

    def test_the_ready_row_stands_anywhere(self):
        rows = [row("book", 2, 3, 1, 0), begin(1, "a"), begin(2, "a"), row("ready", 2), begin(3, "a"), (4, "root")]
        self.assertEqual(right_book([[FIRST, row("ready", 1)], rows]), 1)

    def test_a_ready_row_of_another_age_or_torn(self):
        right = [FIRST, row("ready", 1)]
        for last in (row("ready", 1), row("ready", 3), (3, "ready"), (3,), (3, "ready", True), [3, "ready", 2],
                     (4, "ready", 2), (3, "ready", 2, 2), (3, "root", 2)):
            self.assertEqual(right_book([right, [row("book", 2, 1, 1, 0), last]]), 0)
        several = [row("book", 2, 1, 1, 0), row("ready", 1), row("ready", 2)]
        self.assertEqual(right_book([right, several]), 1)

    def test_a_book_row_that_is_not_first_or_is_none(self):
        right = [FIRST, row("ready", 1)]
        for first in ((6, "book", 2, 1, 1), (6, "book", 2, 1, 0, 0), [6, "book", 2, 1, 1, 0], (3, "ready", 2), None):
            self.assertEqual(right_book([right, [first, row("ready", 2)]]), 0)
        self.assertEqual(right_book([right, [row("ready", 2), row("book", 2, 1, 1, 0), row("ready", 2)]]), 0)

    def test_drawn_books(self):
        for seed in range(40):
            one, other = drawn_book(seed), drawn_book(seed + 1)
            books = [list(one), list(other)]
            self.assertEqual(right_book(books), 1 if other[0][2] > one[0][2] else 0)
            self.assertEqual(books, [one, other])


if __name__ == "__main__":
    unittest.main()
