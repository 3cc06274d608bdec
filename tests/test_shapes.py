"""[11] to [14]: shapes, places, marks, checks and fillings; [2] and [3] of these."""

import unittest

from sherdhall.errors import NoPlace, NoShape
from sherdhall.shapes import MARKS, PLAIN, checks, count, data_places, is_filling, is_shape, kind_of, mark
from samples import NO_SHAPES, NO_WHOLES, SHAPES, data_of, filling_of, kinds, ones_of, some_numbers

# Each with an argument ahead that would be refused, or is of another kind: the shape goes ahead of it.
TAKERS = [
    lambda shape: count(shape=shape), lambda shape: data_places(shape=shape), lambda shape: checks(shape=shape),
    lambda shape: kind_of(0, shape=shape), lambda shape: kind_of("x", shape=shape),
    lambda shape: mark(0, shape=shape), lambda shape: mark(None, shape=shape), lambda shape: mark(3, shape=shape),
    lambda shape: is_filling([0] * 10, shape=shape), lambda shape: is_filling(None, shape=shape),
]


class Shapes(unittest.TestCase):

    def test_the_plain_one(self):
        self.assertEqual(PLAIN, (2, 3, 2))
        self.assertIs(is_shape(PLAIN), True)

    def test_every_shape_is_one(self):
        self.assertEqual(len(SHAPES), 48)
        for shape in SHAPES:
            self.assertIs(is_shape(shape), True)

    def test_nothing_else_is_one(self):
        for thing in NO_SHAPES:
            with self.subTest(thing=thing):
                self.assertIs(is_shape(thing), False)

    def test_just_the_numbers_in_the_bounds(self):
        for groups in range(-1, 7):
            for size in range(-1, 7):
                for sums in range(-1, 5):
                    shape = (groups, size, sums)
                    self.assertIs(is_shape(shape), shape in SHAPES)

    def test_what_is_no_shape_is_refused_ahead_of_all_else(self):
        for at, taker in enumerate(TAKERS):
            for thing in NO_SHAPES:
                with self.subTest(taker=at, thing=thing):
                    with self.assertRaises(NoShape) as caught:
                        taker(thing)
                    self.assertIs(caught.exception.shape, thing)

    def test_where_none_is_handed_in_it_is_plain(self):
        self.assertEqual(count(), 10)
        self.assertEqual(data_places(), data_places(shape=PLAIN))
        self.assertEqual(checks(), checks(shape=PLAIN))
        self.assertEqual([kind_of(place) for place in range(10)], kinds(PLAIN))
        self.assertEqual([mark(place) for place in data_of(PLAIN)], [1, 2, 3, 11, 12, 13])
        self.assertIs(is_filling([0] * 10), True)
        self.assertIs(is_filling([0] * 9), False)
        self.assertRaises(NoPlace, kind_of, 10)

    def test_the_shape_is_handed_by_its_name(self):
        for asked in (lambda: count(PLAIN), lambda: data_places(PLAIN), lambda: checks(PLAIN),
                      lambda: kind_of(0, PLAIN), lambda: mark(0, PLAIN), lambda: is_filling([], PLAIN)):
            self.assertRaises(TypeError, asked)


class Places(unittest.TestCase):

    def test_count(self):
        self.assertEqual(count(shape=(1, 1, 0)), 2)
        self.assertEqual(count(shape=(4, 4, 2)), 22)
        for shape in SHAPES:
            self.assertEqual(count(shape=shape), len(kinds(shape)))

    def test_plain_by_hand(self):
        self.assertEqual(data_places(), [0, 1, 2, 4, 5, 6])
        self.assertEqual(kind_of(0), ("data", 0, 0))
        self.assertEqual(kind_of(3), ("local", 0))
        self.assertEqual(kind_of(6), ("data", 1, 2))
        self.assertEqual(kind_of(7), ("local", 1))
        self.assertEqual(kind_of(8), ("over", 1))
        self.assertEqual(kind_of(9), ("over", 2))

    def test_data_places(self):
        for shape in SHAPES:
            told = data_places(shape=shape)
            self.assertIs(type(told), list)
            self.assertEqual(told, data_of(shape))

    def test_kind_of_each_place(self):
        for shape in SHAPES:
            told = [kind_of(place, shape=shape) for place in range(count(shape=shape))]
            self.assertEqual(told, kinds(shape))
            for kind in told:
                self.assertIs(type(kind), tuple)

    def test_mark_of_each_data_place(self):
        self.assertEqual(tuple(MARKS), (1, 11, 40, 30))
        for shape in SHAPES:
            for place in data_of(shape):
                _, group, at = kinds(shape)[place]
                self.assertEqual(mark(place, shape=shape), (1, 11, 40, 30)[group] + at)

    def test_no_other_place_has_a_mark(self):
        for shape in SHAPES:
            for place, kind in enumerate(kinds(shape)):
                if kind[0] != "data":
                    with self.assertRaises(NoPlace) as caught:
                        mark(place, shape=shape)
                    self.assertEqual(caught.exception.place, place)

    def test_what_is_no_place_is_refused(self):
        for shape in SHAPES:
            many = len(kinds(shape))
            for thing in NO_WHOLES + [-1, many, many + 1, -many, 10 ** 59]:
                for asked in (kind_of, mark):
                    with self.subTest(shape=shape, thing=thing):
                        with self.assertRaises(NoPlace) as caught:
                            asked(thing, shape=shape)
                        self.assertIs(caught.exception.place, thing)


class Checks(unittest.TestCase):

    def test_small_by_hand(self):
        self.assertEqual(checks(shape=(1, 1, 0)), [[1, 96]])
        self.assertEqual(checks(shape=(1, 2, 1)), [[1, 1, 96, 0], [1, 2, 0, 96]])
        self.assertEqual(checks(shape=(2, 1, 2)), [
            [1, 96, 0, 0, 0, 0], [0, 0, 1, 96, 0, 0], [1, 0, 11, 0, 96, 0], [1, 0, 24, 0, 0, 96]])

    def test_plain_by_hand(self):
        self.assertEqual(checks(), [
            [1, 1, 1, 96, 0, 0, 0, 0, 0, 0], [0, 0, 0, 0, 1, 1, 1, 96, 0, 0],
            [1, 2, 3, 0, 11, 12, 13, 0, 96, 0], [1, 4, 9, 0, 24, 47, 72, 0, 0, 96]])

    def test_every_shape(self):
        for shape in SHAPES:
            told = kinds(shape)
            due = []
            for group in range(shape[0]):
                due.append([{("data", group): 1, ("local", group): 96}.get(kind[:2], 0) for kind in told])
            for number in range(1, shape[2] + 1):
                row = []
                for kind in told:
                    if kind[0] == "data":
                        row.append(((1, 11, 40, 30)[kind[1]] + kind[2]) ** number % 97)
                    else:
                        row.append(96 if kind == ("over", number) else 0)
                due.append(row)
            self.assertEqual(checks(shape=shape), due)

    def test_told_lists_are_the_askers_own(self):
        for shape in SHAPES:
            first = checks(shape=shape)
            second = checks(shape=shape)
            lists = [first, second] + first + second
            self.assertEqual(len({id(one) for one in lists}), len(lists))
            for row in first:
                row[0] = 50
                row.append(1)
            first.clear()
            self.assertEqual(checks(shape=shape), second)
            self.assertEqual(is_filling([0] * count(shape=shape), shape=shape), True)

    def test_told_data_places_are_the_askers_own(self):
        for shape in SHAPES:
            told = data_places(shape=shape)
            told.append(0)
            self.assertEqual(data_places(shape=shape), data_of(shape))
            self.assertIsNot(data_places(shape=shape), data_places(shape=shape))


class Fillings(unittest.TestCase):

    def right_ones(self, shape):
        many = shape[0] * shape[1]
        out = [filling_of(some_numbers(many, seed), shape) for seed in range(3)]
        return out + ones_of(shape) + [filling_of([96] * many, shape), [0] * len(kinds(shape))]

    def test_right_ones_of_every_shape(self):
        for shape in SHAPES:
            for filling in self.right_ones(shape):
                self.assertIs(is_filling(filling, shape=shape), True)

    def test_they_keep_all_told_checks(self):
        for shape in SHAPES:
            for filling in self.right_ones(shape):
                for row in checks(shape=shape):
                    self.assertEqual(sum(one * other for one, other in zip(row, filling)) % 97, 0)

    def test_one_number_otherwise(self):
        for shape in SHAPES:
            filling = filling_of(some_numbers(shape[0] * shape[1]), shape)
            for place in range(len(filling)):
                for by in (1, 48, 96):
                    other = list(filling)
                    other[place] = (other[place] + by) % 97
                    self.assertIs(is_filling(other, shape=shape), False)

    def test_numbers_of_97_or_below_0(self):
        for shape in SHAPES:
            filling = filling_of(some_numbers(shape[0] * shape[1]), shape)
            for place in range(len(filling)):
                for by in (97, -97, 97 * 10 ** 50):
                    other = list(filling)
                    other[place] += by
                    self.assertIs(is_filling(other, shape=shape), False)

    def test_members_that_are_no_whole_numbers(self):
        nought = [0, 0]
        one = [1, 1]
        self.assertIs(is_filling(nought, shape=(1, 1, 0)), True)
        self.assertIs(is_filling(one, shape=(1, 1, 0)), True)
        for other in ([False, 0], [0, False], [True, 1], [1, True], [1.0, 1], [1, 1.0], ["0", 0], [None, 0], [[0], 0]):
            self.assertIs(is_filling(other, shape=(1, 1, 0)), False)

    def test_too_few_and_too_many(self):
        for shape in SHAPES:
            filling = filling_of(some_numbers(shape[0] * shape[1]), shape)
            self.assertIs(is_filling(filling[:-1], shape=shape), False)
            self.assertIs(is_filling(filling + [0], shape=shape), False)
            self.assertIs(is_filling([0] + filling, shape=shape), False)
            self.assertIs(is_filling([0] * (len(filling) - 1), shape=shape), False)
            self.assertIs(is_filling([0] * (len(filling) + 1), shape=shape), False)
            self.assertIs(is_filling([], shape=shape), False)

    def test_other_things(self):
        for shape in SHAPES:
            filling = filling_of(some_numbers(shape[0] * shape[1]), shape)
            for thing in NO_WHOLES + [0, tuple(filling), dict(enumerate(filling)), bytes(filling), str(filling)]:
                self.assertIs(is_filling(thing, shape=shape), False)

    def test_nothing_handed_in_is_changed(self):
        for shape in SHAPES:
            filling = filling_of(some_numbers(shape[0] * shape[1]), shape)
            for thing in (list(filling), filling[:-1], filling + [5], [True] + filling[1:]):
                kept = list(thing)
                is_filling(thing, shape=shape)
                self.assertEqual(thing, kept)

    def test_told_of_what_it_is_now(self):
        filling = filling_of([1, 2, 3, 4, 5, 6], PLAIN)
        self.assertIs(is_filling(filling), True)
        filling[0] = 50
        self.assertIs(is_filling(filling), False)
        filling[0] = 1
        self.assertIs(is_filling(filling), True)


if __name__ == "__main__":
    unittest.main()
