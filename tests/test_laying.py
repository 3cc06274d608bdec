"""[15] to [18]: rows, and how they are laid in pieces and told back; [2] and [3] of these."""

import copy
import unittest

from sherdhall.errors import NoPlace, NoRow, NoShape
from sherdhall.laying import MOST, cells_for, is_row, laid, needed, unlaid
from sherdhall.shapes import is_filling
from samples import NO_SHAPES, NO_WHOLES, SHAPES, data_of, filling_of, kinds, some_numbers

ROWS = [[], [0], [96], [0, 96], [5] * 60, list(range(60)), [0] * 60, some_numbers(59)]
MEMBERS = NO_WHOLES + [97, -1, 98, 194, -97, 10 ** 59, -10 ** 59]


def lengths(shape):
    """How long rows are that are laid in this shape here."""
    wide = shape[0] * shape[1]
    return sorted({0, 1, wide - 1, wide, wide + 1, 2 * wide, 2 * wide + 1, 59, 60})


class Rows(unittest.TestCase):

    def test_most(self):
        self.assertEqual(MOST, 60)

    def test_rows_are_rows(self):
        for row in ROWS:
            self.assertIs(is_row(row), True)

    def test_nothing_else_is(self):
        for thing in [None, True, False, 0, 5, 1.5, (), (1, 2), {}, {0: 1}, {1}, "12", b"12", range(3), object(),
                      [0] * 61, [1] * 300]:
            with self.subTest(thing=thing):
                self.assertIs(is_row(thing), False)

    def test_a_wrong_member_at_each_place(self):
        for wrong in MEMBERS:
            for row in ([wrong], [wrong, 1], [1, wrong], [0] * 59 + [wrong], [3] * 30 + [wrong] + [3] * 29):
                with self.subTest(wrong=wrong):
                    self.assertIs(is_row(row), False)

    def test_no_row_of_what_is_no_list_or_a_longer_one(self):
        for thing in [None, True, 5, "12", b"12", (1, 2), (), {0: 1}, object(), [0] * 61, [97] * 61, ["x"] * 100]:
            with self.subTest(thing=thing):
                with self.assertRaises(NoRow) as caught:
                    laid(thing)
                self.assertIsNone(caught.exception.at)

    def test_no_row_of_the_first_wrong_member(self):
        for wrong in MEMBERS:
            for row, at in (([wrong], 0), ([wrong, wrong], 0), ([1, wrong, 2, wrong], 1), ([1, 2, 3, wrong], 3),
                            ([0] * 59 + [wrong], 59)):
                with self.subTest(wrong=wrong, at=at):
                    with self.assertRaises(NoRow) as caught:
                        laid(row)
                    self.assertEqual(caught.exception.at, at)
                    self.assertIs(type(caught.exception.at), int)


class Laid(unittest.TestCase):

    def test_plain_by_hand(self):
        self.assertEqual(laid([1, 2, 3, 4, 5, 6, 7]), {
            0: [1, 7], 1: [2, 0], 2: [3, 0], 3: [6, 7], 4: [4, 0], 5: [5, 0], 6: [6, 0], 7: [15, 0],
            8: [(1 + 4 + 9 + 44 + 60 + 78) % 97, 7], 9: [(1 + 8 + 27 + 4 * 24 + 5 * 47 + 6 * 72) % 97, 7]})

    def test_small_by_hand(self):
        self.assertEqual(laid([10, 20, 30], shape=(1, 2, 1)), {0: [10, 30], 1: [20, 0], 2: [30, 30], 3: [50, 30]})
        self.assertEqual(laid([96, 1], shape=(1, 1, 0)), {0: [96, 1], 1: [96, 1]})

    def test_the_cells_of_every_place_are_a_filling(self):
        for shape in SHAPES:
            for many in lengths(shape):
                row = some_numbers(many, many + 1)
                pieces = laid(row, shape=shape)
                wide = shape[0] * shape[1]
                cells = -(-many // wide)
                self.assertIs(type(pieces), dict)
                self.assertEqual(list(pieces), list(range(len(kinds(shape)))))
                self.assertEqual({len(piece) for piece in pieces.values()}, {cells})
                for cell in range(cells):
                    told = [pieces[place][cell] for place in pieces]
                    numbers = (row + [0] * wide)[cell * wide:(cell + 1) * wide]
                    self.assertEqual(told, filling_of(numbers, shape))
                    self.assertIs(is_filling(told, shape=shape), True)

    def test_the_empty_row_has_pieces_without_cells(self):
        for shape in SHAPES:
            self.assertEqual(laid([], shape=shape), {place: [] for place in range(len(kinds(shape)))})

    def test_told_anew_each_time(self):
        for shape in SHAPES[::5]:
            for row in ROWS:
                kept = list(row)
                first = laid(row, shape=shape)
                second = laid(row, shape=shape)
                lists = list(first.values()) + list(second.values()) + [row]
                self.assertEqual(len({id(one) for one in lists}), len(lists))
                for piece in first.values():
                    piece.append(50)
                first.clear()
                self.assertEqual(laid(row, shape=shape), second)
                self.assertEqual(row, kept)

    def test_what_is_done_to_the_row_behind_changes_nothing(self):
        row = [1, 2, 3]
        pieces = laid(row)
        row[0] = 90
        self.assertEqual(pieces, laid([1, 2, 3]))

    def test_cells_for(self):
        self.assertEqual([cells_for(many) for many in (0, 1, 5, 6, 7, 12, 13, 60)], [0, 1, 1, 1, 2, 2, 3, 10])
        for shape in SHAPES:
            for many in range(61):
                self.assertEqual(cells_for(many, shape=shape), -(-many // (shape[0] * shape[1])))
                self.assertIs(type(cells_for(many, shape=shape)), int)

    def test_no_shape_ahead_of_all_else(self):
        for asked in (lambda shape: laid([1], shape=shape), lambda shape: laid("x", shape=shape),
                      lambda shape: cells_for(5, shape=shape), lambda shape: cells_for(0, shape=shape),
                      lambda shape: unlaid({}, 5, shape=shape), lambda shape: unlaid({0: [1]}, 1, shape=shape),
                      lambda shape: needed(0, 5, shape=shape), lambda shape: needed(5, 0, shape=shape)):
            for thing in NO_SHAPES:
                with self.subTest(thing=thing):
                    with self.assertRaises(NoShape) as caught:
                        asked(thing)
                    self.assertIs(caught.exception.shape, thing)


class Unlaid(unittest.TestCase):

    def test_of_all_and_of_some_of_the_numbers(self):
        for shape in SHAPES:
            wide = shape[0] * shape[1]
            for many in lengths(shape):
                row = some_numbers(many, 3)
                pieces = laid(row, shape=shape)
                room = (row + [0] * wide)[:wide * len(pieces[0])]
                for some in sorted({0, 1, wide, many // 2, many, len(room)}):
                    if some <= len(room):
                        told = unlaid(pieces, some, shape=shape)
                        self.assertEqual(told, room[:some])
                        self.assertIs(type(told), list)

    def test_places_that_are_not_needed_may_lack(self):
        for shape in SHAPES:
            wide = shape[0] * shape[1]
            row = some_numbers(wide + 1, 4)
            pieces = laid(row, shape=shape)
            for some in range(wide + 2):
                held = {place: pieces[place] for place in data_of(shape)[:some]}
                self.assertEqual(unlaid(held, some, shape=shape), row[:some])

    def test_of_no_numbers_nothing_is_needed(self):
        self.assertEqual(unlaid({}, 0), [])
        self.assertEqual(unlaid({3: [1]}, 0), [])

    def test_the_first_place_that_lacks_is_refused(self):
        for shape in SHAPES:
            data = data_of(shape)
            pieces = laid(some_numbers(60, 5), shape=shape)
            for lacking in range(len(data)):
                held = {place: pieces[place] for place in pieces if place not in data[lacking::2]}
                for some in sorted({lacking + 1, len(data), 60}):
                    with self.assertRaises(NoPlace) as caught:
                        unlaid(held, some, shape=shape)
                    self.assertEqual(caught.exception.place, data[lacking])
                self.assertEqual(len(unlaid(held, lacking, shape=shape)), lacking)

    def test_the_order_of_the_dict_is_free(self):
        pieces = laid([9, 8, 7, 6, 5, 4, 3])
        turned = {place: pieces[place] for place in reversed(list(pieces))}
        self.assertEqual(unlaid(turned, 7), [9, 8, 7, 6, 5, 4, 3])

    def test_nothing_handed_in_is_changed_and_the_row_is_the_askers_own(self):
        pieces = laid(list(range(60)))
        kept = copy.deepcopy(pieces)
        told = unlaid(pieces, 60)
        told.clear()
        self.assertEqual(unlaid(pieces, 60), list(range(60)))
        self.assertEqual(pieces, kept)


class Needed(unittest.TestCase):

    def test_plain_by_hand(self):
        self.assertEqual(needed(0, 0), [])
        self.assertEqual(needed(0, 1), [0])
        self.assertEqual(needed(3, 5), [4, 5])
        self.assertEqual(needed(5, 7), [0, 6])
        self.assertEqual(needed(0, 6), [0, 1, 2, 4, 5, 6])
        self.assertEqual(needed(1, 8), [0, 1, 2, 4, 5, 6])
        self.assertEqual(needed(0, 60), [0, 1, 2, 4, 5, 6])
        self.assertEqual(needed(59, 60), [6])
        self.assertEqual(needed(60, 60), [])
        self.assertEqual(needed(9, 4), [])

    def test_every_stretch(self):
        for shape in SHAPES:
            data = data_of(shape)
            for first in (0, 1, 2, 5, 12, 16, 17, 31, 59, 60):
                for behind in range(61):
                    due = sorted({data[at % len(data)] for at in range(first, behind)})
                    self.assertEqual(needed(first, behind, shape=shape), due)

    def test_told_anew_each_time(self):
        needed(0, 60).clear()
        self.assertEqual(needed(0, 60), [0, 1, 2, 4, 5, 6])


if __name__ == "__main__":
    unittest.main()
