"""[30] and [31]: cards, and what they are as they lie under a key."""

import unittest

from sherdhall.cards import cells_of, looked, made_card
from samples import some_numbers

CELLS = [[], [0], [96], [5, 6], [96, 96, 96], [0] * 60, [96] * 60, list(range(60)), some_numbers(59), some_numbers(4, 8)]


def otherwise(card, at, number):
    """The card with another member there."""
    return card[:at] + (number,) + card[at + 1:]


class Made(unittest.TestCase):

    def test_by_hand(self):
        self.assertEqual(made_card(7, 0, []), (5, 7, 0, 0, 0))
        self.assertEqual(made_card(1, 9, [5]), (6, 1, 9, 5, 5, 5))
        self.assertEqual(made_card(12, 3, [90, 10, 4]), (8, 12, 3, 90, 10, 4, 7, (90 + 20 + 12) % 97))

    def test_many_cells(self):
        for cells in CELLS:
            card = made_card(10 ** 9, 21, cells)
            self.assertIs(type(card), tuple)
            self.assertEqual(len(card), 5 + len(cells))
            self.assertEqual(card[:3], (5 + len(cells), 10 ** 9, 21))
            self.assertEqual(list(card[3:-2]), cells)
            self.assertEqual(card[-2], sum(cells) % 97)
            self.assertEqual(card[-1], sum((at + 1) * cell for at, cell in enumerate(cells)) % 97)
            self.assertTrue(all(type(member) is int for member in card))

    def test_nothing_handed_in_is_changed_or_kept(self):
        cells = [1, 2, 3]
        card = made_card(1, 2, cells)
        self.assertEqual(cells, [1, 2, 3])
        cells.clear()
        self.assertEqual(card, made_card(1, 2, [1, 2, 3]))

    def test_cells_of(self):
        for cells in CELLS:
            card = made_card(4, 5, cells)
            told = cells_of(card)
            self.assertIs(type(told), list)
            self.assertEqual(told, cells)
            told.append(1)
            self.assertEqual(cells_of(card), cells)


class Looked(unittest.TestCase):

    def test_whole(self):
        for cells in CELLS:
            for ticket, place in ((1, 0), (5, 21), (10 ** 59, 3)):
                self.assertEqual(looked(made_card(ticket, place, cells), ticket, place), "whole")

    def test_torn(self):
        for cells in CELLS:
            card = made_card(4, 5, cells)
            for many in range(1, len(card)):
                self.assertEqual(looked(card[:many], 4, 5), "torn")
            self.assertEqual(looked(card + (0,), 4, 5), "torn")
            self.assertEqual(looked(otherwise(card, 0, card[0] - 1), 4, 5), "torn")
            self.assertEqual(looked(otherwise(card, 0, card[0] + 1), 4, 5), "torn")
            self.assertEqual(looked(otherwise(card, 0, -card[0]), 4, 5), "torn")

    def test_torn_of_fewer_than_five(self):
        for card in ((1,), (0,), (5,), (2, 4), (3, 4, 5), (4, 4, 5, 0), (4, 4, 5, 9), (2, 9), (3, 9, 9), (4, 9, 9, 9)):
            self.assertEqual(looked(card, 4, 5), "torn")
        self.assertEqual(looked((5, 4, 5, 0, 0), 4, 5), "whole")

    def test_strange(self):
        for cells in CELLS:
            card = made_card(4, 5, cells)
            for ticket, place in ((4, 6), (3, 5), (5, 4), (4, 0), (0, 5), (5, 5), (4, 4)):
                self.assertEqual(looked(card, ticket, place), "strange")

    def test_torn_goes_ahead_of_strange(self):
        self.assertEqual(looked((6, 1, 2, 3, 3), 4, 5), "torn")
        self.assertEqual(looked((4, 1, 2, 3), 4, 5), "torn")

    def test_strange_goes_ahead_of_spoilt(self):
        self.assertEqual(looked((6, 1, 2, 3, 4, 4), 4, 5), "strange")
        self.assertEqual(looked((6, 4, 2, 97, 0, 0), 4, 5), "strange")
        self.assertEqual(looked((6, 4, 5, 3, 4, 4), 4, 5), "spoilt")

    def test_spoilt_sums(self):
        for cells in CELLS:
            card = made_card(4, 5, cells)
            for at in (-2, -1):
                for by in (1, -1, 96, 97, -97, 10 ** 58):
                    other = list(card)
                    other[at] += by
                    self.assertEqual(looked(tuple(other), 4, 5), "spoilt")
        self.assertEqual(looked((7, 4, 5, 1, 2, 5, 3), 4, 5), "spoilt")

    def test_cells_that_are_no_such_numbers_are_spoilt(self):
        self.assertEqual(looked((6, 4, 5, 97, 0, 0), 4, 5), "spoilt")
        self.assertEqual(looked((6, 4, 5, -97, 0, 0), 4, 5), "spoilt")
        self.assertEqual(looked((6, 4, 5, -1, 96, 96), 4, 5), "spoilt")
        self.assertEqual(looked((7, 4, 5, 1, 98, 2, 3), 4, 5), "spoilt")
        self.assertEqual(looked((7, 4, 5, 98, 1, 2, 3), 4, 5), "spoilt")
        self.assertEqual(looked((7, 4, 5, 1, 1, 2, 3), 4, 5), "whole")

    def test_one_cell_otherwise_is_always_spoilt(self):
        for cells in CELLS:
            card = made_card(4, 5, cells)
            for at in range(len(cells)):
                for number in range(97):
                    due = "whole" if number == cells[at] else "spoilt"
                    self.assertEqual(looked(otherwise(card, at + 3, number), 4, 5), due)

    def test_two_cells_otherwise_are_always_spoilt(self):
        card = made_card(4, 5, [7, 50, 96])
        for one, other in ((3, 4), (3, 5), (4, 5)):
            for number in range(97):
                for second in range(97):
                    changed = otherwise(otherwise(card, one, number), other, second)
                    due = "whole" if changed == card else "spoilt"
                    self.assertEqual(looked(changed, 4, 5), due)

    def test_two_far_cells_otherwise_are_spoilt(self):
        cells = some_numbers(60, 6)
        card = made_card(4, 5, cells)
        for one in range(0, 60, 7):
            for other in range(one + 1, 60):
                for by in (1, 40, 96):
                    changed = otherwise(card, one + 3, (cells[one] + by) % 97)
                    for back in (97 - by, by, 1):
                        second = (cells[other] + back) % 97
                        self.assertEqual(looked(otherwise(changed, other + 3, second), 4, 5), "spoilt")

    def test_three_cells_otherwise_may_be_whole(self):
        self.assertEqual(looked(made_card(4, 5, [10, 10, 10])[:3] + (11, 8, 11, 30, 60), 4, 5), "whole")

    def test_nothing_is_changed_and_told_alike(self):
        card = made_card(4, 5, [1, 2])
        self.assertEqual([looked(card, 4, 5), looked(card, 4, 5)], ["whole", "whole"])
        self.assertEqual(card, (7, 4, 5, 1, 2, 3, 5))


if __name__ == "__main__":
    unittest.main()
