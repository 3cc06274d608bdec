"""[22] to [24]: what is told by how many are lost, pieces and rows mended, and recipes and ghosts looked at."""

import copy
import unittest

from sherdhall.errors import Hidden, NoPlace, NoRow, NoShape
from sherdhall.laying import laid
from sherdhall.mending import Recipe, all_told, is_ghost, is_recipe, mended, recipe, recipes, row_of
from samples import (NO_SHAPES, NO_WHOLES, PLAIN, SHAPES, data_of, filling_of, kinds, lists_of, muddled, ones_of,
                     some_lists, some_numbers, told_places)

COUNTED = [(1, 1, 0), (1, 1, 1), (1, 1, 2), (1, 2, 1), (2, 1, 2), (2, 2, 1), (1, 4, 2), (3, 1, 1), (2, 2, 2), (4, 1, 0)]
WRONG_PLACES = NO_WHOLES + [-1, 10, 11, 10 ** 59]


def held(pieces, left):
    """The pieces of the left places, in their order."""
    return {place: pieces[place] for place in left}


class ByTheCount(unittest.TestCase):

    def test_every_set_of_lost_places_of_small_shapes(self):
        for shape in COUNTED:
            places = list(range(len(kinds(shape))))
            for left in lists_of(places, 0, len(places)):
                told = []
                for place in places:
                    try:
                        told.append(recipe(list(left), place, shape=shape).wanted)
                    except Hidden:
                        pass
                self.assertIs(all_told(list(left), shape=shape), told == places)
                self.assertEqual(told, told_places(left, shape))

    def test_every_set_of_lost_places_of_plain(self):
        for left in lists_of(range(10), 0, 10):
            self.assertIs(all_told(list(left)), told_places(left, PLAIN) == list(range(10)))

    def test_whichever_sums_and_one_are_lost_all_are_told(self):
        for shape in SHAPES:
            places = range(len(kinds(shape)))
            for lost in lists_of(places, 0, shape[2] + 1)[::3]:
                left = [place for place in places if place not in lost]
                self.assertIs(all_told(left, shape=shape), True)
                self.assertEqual(list(recipes(left, shape=shape)), list(lost))

    def test_some_lists_of_every_shape_muddled(self):
        for shape in SHAPES:
            places = list(range(len(kinds(shape))))
            for left in some_lists(shape, 20, 3):
                due = told_places(left, shape) == places
                self.assertIs(all_told(muddled(left), shape=shape), due)

    def test_at_the_edge(self):
        every = list(range(10))
        self.assertIs(all_told(every), True)
        self.assertIs(all_told([]), False)
        for lost, due in (([0, 1, 2], True), ([0, 1, 2, 3], False), ([0, 1, 4, 5], True), ([0, 1, 2, 4], True),
                          ([0, 1, 2, 4, 5], False), ([8, 9], True), ([3, 7, 8, 9], True), ([0, 1, 8, 9], False),
                          ([0, 1, 8], True), ([0, 1, 4, 5, 8], False)):
            self.assertIs(all_told([place for place in every if place not in lost]), due)

    def test_told_by_its_group_where_not_all_is_told(self):
        for shape in SHAPES:
            told = kinds(shape)
            for group in range(shape[0]):
                members = [place for place, kind in enumerate(told) if kind[0] != "over" and kind[1] == group]
                for wanted in members:
                    left = [place for place in members if place != wanted]
                    self.assertEqual(recipe(left, wanted, shape=shape).reads, left)


class Recipes(unittest.TestCase):

    def test_of_all_places_that_are_not_left_and_are_told(self):
        for shape in SHAPES:
            for left in some_lists(shape, 8, 11):
                found = recipes(muddled(left), shape=shape)
                self.assertIs(type(found), dict)
                self.assertEqual(list(found), [place for place in told_places(left, shape) if place not in left])
                for place, one in found.items():
                    self.assertEqual(one, recipe(muddled(left), place, shape=shape))
                    self.assertTrue(is_recipe(one, list(left), shape=shape))

    def test_of_nothing_and_of_all_left_there_are_none(self):
        for shape in SHAPES:
            self.assertEqual(recipes([], shape=shape), {})
            self.assertEqual(recipes(list(range(len(kinds(shape)))), shape=shape), {})

    def test_by_hand(self):
        self.assertEqual(recipes([0, 1, 2]), {3: Recipe(3, [0, 1, 2], [1, 1, 1])})
        self.assertEqual(recipes([1], shape=(1, 1, 1)), {0: Recipe(0, [1], [1]), 2: Recipe(2, [1], [1])})

    def test_the_askers_own(self):
        left = [1, 2, 3, 4, 5, 6]
        first, second = recipes(left), recipes(left)
        self.assertEqual(first, second)
        first[0].reads.clear()
        first.clear()
        self.assertEqual(recipes(left), second)
        self.assertEqual(left, [1, 2, 3, 4, 5, 6])


class Mended(unittest.TestCase):

    def test_just_the_piece_that_was_laid(self):
        for shape in SHAPES:
            for many in (0, 1, 17, 60):
                pieces = laid(some_numbers(many, many), shape=shape)
                for left in some_lists(shape, 4, many + 1):
                    for wanted in pieces:
                        if wanted in told_places(left, shape):
                            there = held(pieces, left)
                            self.assertEqual(mended(there, wanted, shape=shape), pieces[wanted])
                            self.assertEqual(there, held(pieces, left))
                        else:
                            with self.assertRaises(Hidden) as caught:
                                mended(held(pieces, left), wanted, shape=shape)
                            self.assertEqual(caught.exception.place, wanted)
                            self.assertTrue(is_ghost(caught.exception.ghost, list(left), wanted, shape=shape))

    def test_by_the_recipe_of_the_places_that_are_there(self):
        pieces = {place: some_numbers(5, place) for place in (9, 8, 6, 5, 4, 2, 1)}
        for wanted in range(10):
            self.assertEqual(mended(pieces, wanted), recipe(list(pieces), wanted).made(pieces))

    def test_a_piece_that_is_there_is_told_as_a_list_of_its_own(self):
        pieces = {4: [1, 2, 3]}
        told = mended(pieces, 4)
        self.assertEqual(told, [1, 2, 3])
        told.append(9)
        self.assertEqual(pieces, {4: [1, 2, 3]})
        self.assertEqual(mended(pieces, 4), [1, 2, 3])

    def test_no_place_of_the_keys_in_their_order_then_of_wanted(self):
        for keys, wanted, place in (([0, 77, 55], 99, 77), ([55, 77, 0], 99, 55), ([0, 1], 99, 99), ([], 10, 10),
                                    ([-1], 0, -1), (["a"], 0, "a"), ([0, None, 2], "x", None), ([0], True, True)):
            with self.assertRaises(NoPlace) as caught:
                mended({key: [1] for key in keys}, wanted)
            self.assertIs(caught.exception.place, place)


class RowOf(unittest.TestCase):

    def test_the_row_that_was_laid(self):
        for shape in SHAPES:
            data = data_of(shape)
            for many in (0, 1, 2, 5, len(data), len(data) + 1, 60):
                row = some_numbers(many, many + 2)
                pieces = laid(row, shape=shape)
                for left in some_lists(shape, 5, many + 3):
                    lost = [place for place in data[:many] if place not in told_places(left, shape)]
                    if not lost:
                        self.assertEqual(row_of(held(pieces, left), many, shape=shape), row)
                    else:
                        with self.assertRaises(Hidden) as caught:
                            row_of(held(pieces, left), many, shape=shape)
                        self.assertEqual(caught.exception.place, lost[0])
                        self.assertTrue(is_ghost(caught.exception.ghost, list(left), lost[0], shape=shape))

    def test_fewer_numbers_need_fewer_places(self):
        pieces = laid([1, 2, 3, 4, 5, 6])
        for many in range(4):
            self.assertEqual(row_of(held(pieces, [0, 1, 2]), many), [1, 2, 3][:many])
        for many in (4, 5, 6):
            with self.assertRaises(Hidden) as caught:
                row_of(held(pieces, [0, 1, 2]), many)
            self.assertEqual(caught.exception.place, 4)

    def test_of_no_numbers_it_is_empty(self):
        for pieces in ({}, {0: []}, {0: [1, 2]}, {9: [5]}, laid([]), laid([1] * 60)):
            self.assertEqual(row_of(pieces, 0), [])

    def test_numbers_behind_the_row_are_told_as_far_as_there_is_room(self):
        pieces = laid([5, 6, 7])
        self.assertEqual(row_of(pieces, 6), [5, 6, 7, 0, 0, 0])

    def test_that_cells_behind_the_row_are_0_is_not_made_use_of(self):
        pieces = laid([5])
        self.assertEqual(pieces[3], [5])
        for left in ([3], [3, 8], [8], [9], [3, 7]):
            with self.assertRaises(Hidden) as caught:
                row_of(held(pieces, left), 1)
            self.assertEqual(caught.exception.place, 0)
            self.assertTrue(is_ghost(caught.exception.ghost, left, 0))

    def test_no_place_goes_first(self):
        for pieces in ({77: [1]}, {0: [1], 77: [1], 99: [1]}, {0: [], 77: []}):
            for many in (0, 1, 7, 61, -1, None, True, "x"):
                with self.assertRaises(NoPlace) as caught:
                    row_of(pieces, many)
                self.assertEqual(caught.exception.place, 77)

    def test_no_row_of_what_is_no_number_of_numbers(self):
        for pieces in ({}, {0: [1]}, laid([1] * 60), {3: []}):
            for many in NO_WHOLES + [-1, 61, 62, 10 ** 59]:
                with self.assertRaises(NoRow) as caught:
                    row_of(pieces, many)
                self.assertIs(caught.exception.at, many)

    def test_no_row_where_there_is_not_so_much_room(self):
        for shape in SHAPES:
            wide = shape[0] * shape[1]
            for cells in range(4):
                room = wide * cells
                for many in (room + 1, room + 2, 60):
                    if room < many <= 60:
                        for place in (0, len(kinds(shape)) - 1):
                            with self.assertRaises(NoRow) as caught:
                                row_of({place: [0] * cells}, many, shape=shape)
                            self.assertEqual(caught.exception.at, many)
                full = {place: [0] * cells for place in data_of(shape)}
                self.assertEqual(row_of(full, min(room, 60), shape=shape), [0] * min(room, 60))

    def test_where_there_are_no_pieces_all_is_hidden(self):
        for many in (1, 5, 60):
            with self.assertRaises(Hidden) as caught:
                row_of({}, many)
            self.assertEqual(caught.exception.place, 0)
            self.assertTrue(is_ghost(caught.exception.ghost, [], 0))

    def test_hidden_goes_last(self):
        with self.assertRaises(NoRow):
            row_of({3: [1]}, 7)
        with self.assertRaises(Hidden):
            row_of({3: [1]}, 6)

    def test_nothing_handed_in_is_changed_and_the_row_is_the_askers_own(self):
        pieces = held(laid(list(range(60))), [9, 8, 7, 6, 5, 4, 1])
        kept = copy.deepcopy(pieces)
        row_of(pieces, 60).clear()
        self.assertEqual(row_of(pieces, 60), list(range(60)))
        self.assertEqual(pieces, kept)
        self.assertEqual(list(pieces), list(kept))


class LookedAt(unittest.TestCase):

    def test_right_recipes(self):
        for shape in SHAPES:
            for left in some_lists(shape, 4, 2):
                for wanted in told_places(left, shape):
                    one = recipe(list(left), wanted, shape=shape)
                    kept = repr(one)
                    self.assertIs(is_recipe(one, muddled(left), shape=shape), True)
                    self.assertEqual(repr(one), kept)

    def test_it_may_read_its_wanted_place_and_others_besides(self):
        self.assertIs(is_recipe(Recipe(3, [3], [1]), [3]), True)
        self.assertIs(is_recipe(Recipe(3, [0, 1, 2, 3], [2, 2, 2, 96]), [0, 1, 2, 3]), True)
        self.assertIs(is_recipe(Recipe(3, [0, 1, 2, 3], [2, 2, 2, 96]), [0, 1, 2]), False)
        self.assertIs(is_recipe(Recipe(3, [0, 1, 2, 3], [2, 2, 2, 95]), [0, 1, 2, 3]), False)

    def test_one_part_otherwise(self):
        left = [0, 1, 2, 8]
        self.assertIs(is_recipe(Recipe(3, [0, 1, 2], [1, 1, 1]), left), True)
        for wrong in (
                Recipe(7, [0, 1, 2], [1, 1, 1]), Recipe(0, [0, 1, 2], [1, 1, 1]), Recipe(10, [0, 1, 2], [1, 1, 1]),
                Recipe(-7, [0, 1, 2], [1, 1, 1]), Recipe("3", [0, 1, 2], [1, 1, 1]), Recipe(None, [0, 1, 2], [1, 1, 1]),
                Recipe(3.0, [0, 1, 2], [1, 1, 1]), Recipe([3], [0, 1, 2], [1, 1, 1]),
                Recipe(3, [0, 1], [1, 1]), Recipe(3, [0, 1, 8], [1, 1, 1]), Recipe(3, [0, 2, 1], [1, 1, 1]),
                Recipe(3, [2, 1, 0], [1, 1, 1]), Recipe(3, [0, 1, 1, 2], [1, 49, 49, 1]), Recipe(3, [], []),
                Recipe(3, [0, 1, "2"], [1, 1, 1]), Recipe(3, [0, 1, None], [1, 1, 1]), Recipe(3, [0, 1, [2]], [1, 1, 1]),
                Recipe(3, [0, True, 2], [1, 1, 1]), Recipe(3, [False, 1, 2], [1, 1, 1]), Recipe(3, [0, 1.0, 2], [1, 1, 1]),
                Recipe(3, [0, 1, 2], [1, 1, 2]), Recipe(3, [0, 1, 2], [1, 1, 98]), Recipe(3, [0, 1, 2], [-96, 1, 1]),
                Recipe(3, [0, 1, 2], [1, 1]), Recipe(3, [0, 1, 2], [1, 1, 1, 1]), Recipe(3, [0, 1, 2], []),
                Recipe(3, [0, 1, 2, 8], [1, 1, 1, 0]), Recipe(3, [0, 1, 2, 8], [1, 1, 1, 97]),
                Recipe(3, [0, 1, 2], [1, True, 1]), Recipe(3, [0, 1, 2], [1, "1", 1]), Recipe(3, [0, 1, 2], [1, 1.0, 1]),
                Recipe(3, [0, 1, 2], [1, None, 1]), Recipe(3, [0, 1, 2, 8], [1, 1, 1])):
            with self.subTest(wrong=wrong):
                self.assertIs(is_recipe(wrong, left), False)

    def test_a_truth_for_a_place(self):
        self.assertIs(is_recipe(Recipe(1, [0], [1]), [0], shape=(1, 1, 0)), True)
        self.assertIs(is_recipe(Recipe(True, [0], [1]), [0], shape=(1, 1, 0)), False)
        self.assertIs(is_recipe(Recipe(1, [False], [1]), [0], shape=(1, 1, 0)), False)
        self.assertIs(is_recipe(Recipe(1, [0], [True]), [0], shape=(1, 1, 0)), False)

    def test_reads_that_are_not_left(self):
        one = Recipe(3, [0, 1, 2], [1, 1, 1])
        for left in ([], [0, 1], [0, 2], [1, 2], [4, 5, 6], [3]):
            self.assertIs(is_recipe(one, left), False)
        self.assertIs(is_recipe(one, [2, 1, 0, 0, 5]), True)

    def test_fields_that_are_other_things(self):
        for field, thing in (("wanted", None), ("wanted", 4), ("reads", None), ("reads", (0, 1, 2)), ("reads", 3),
                             ("reads", "012"), ("factors", None), ("factors", (1, 1, 1)), ("factors", 1)):
            one = Recipe(3, [0, 1, 2], [1, 1, 1])
            setattr(one, field, thing)
            with self.subTest(field=field, thing=thing):
                self.assertIs(is_recipe(one, [0, 1, 2]), False)

    def test_other_things_are_no_recipes(self):
        for thing in NO_WHOLES + [3, (3, [0, 1, 2], [1, 1, 1]), [3, [0, 1, 2], [1, 1, 1]], "Recipe(3, [0], [1])", Recipe]:
            self.assertIs(is_recipe(thing, [0, 1, 2]), False)

    def test_right_ghosts(self):
        for shape in SHAPES:
            for left in some_lists(shape, 3, 6):
                for wanted in range(len(kinds(shape))):
                    if wanted not in told_places(left, shape):
                        with self.assertRaises(Hidden) as caught:
                            recipe(list(left), wanted, shape=shape)
                        ghost = caught.exception.ghost
                        self.assertIs(is_ghost(ghost, muddled(left), wanted, shape=shape), True)
                        twice = [number * 2 % 97 for number in ghost]
                        self.assertIs(is_ghost(twice, muddled(left), wanted, shape=shape), True)

    def test_just_the_fillings_that_are_0_at_left_and_not_at_wanted(self):
        for shape in (PLAIN, (1, 2, 1), (4, 1, 2)):
            for filling in ones_of(shape) + [filling_of([1, 96] * (shape[0] * shape[1] // 2), shape)]:
                for left in some_lists(shape, 10, 8) + [(), (1,), (3, 3)]:
                    for wanted in range(len(filling)):
                        due = not any(filling[place] for place in left) and filling[wanted] != 0
                        self.assertIs(is_ghost(filling, list(left), wanted, shape=shape), due)

    def test_what_is_no_filling_is_no_ghost(self):
        ghost = filling_of([1, 96, 0, 0, 0, 0], PLAIN)
        self.assertIs(is_ghost(ghost, [2, 3], 0), True)
        for place in range(10):
            for by in (1, 97, -97):
                other = list(ghost)
                other[place] += by
                self.assertIs(is_ghost(other, [2, 3], 0), False)
        for thing in NO_WHOLES + [tuple(ghost), ghost[:-1], ghost + [0], [], dict(enumerate(ghost))]:
            self.assertIs(is_ghost(thing, [2, 3], 0), False)
        kept = list(ghost)
        is_ghost(ghost, [2, 3], 0)
        self.assertEqual(ghost, kept)


class Refused(unittest.TestCase):

    def test_no_shape_ahead_of_all_else(self):
        for asked in (
                lambda shape: all_told([0], shape=shape), lambda shape: all_told(["x"], shape=shape),
                lambda shape: recipes([], shape=shape), lambda shape: recipes([99], shape=shape),
                lambda shape: mended({0: [1]}, 0, shape=shape), lambda shape: mended({"x": [1]}, "y", shape=shape),
                lambda shape: row_of({}, 0, shape=shape), lambda shape: row_of({99: [1]}, 99, shape=shape),
                lambda shape: is_recipe(None, [], shape=shape), lambda shape: is_recipe(None, ["x"], shape=shape),
                lambda shape: is_ghost(None, [], 0, shape=shape), lambda shape: is_ghost([], ["x"], "y", shape=shape)):
            for thing in NO_SHAPES:
                with self.assertRaises(NoShape) as caught:
                    asked(thing)
                self.assertIs(caught.exception.shape, thing)

    def test_no_place_of_left(self):
        recipe_of_3 = Recipe(3, [0, 1, 2], [1, 1, 1])
        for asked in (all_told, recipes, lambda left: is_recipe(recipe_of_3, left), lambda left: is_recipe(None, left),
                      lambda left: is_ghost([0] * 10, left, 0), lambda left: is_ghost(None, left, "x")):
            for wrong in WRONG_PLACES:
                for left in ([wrong], [0, 1, 2, wrong], [0, wrong, 88, None]):
                    with self.assertRaises(NoPlace) as caught:
                        asked(left)
                    self.assertIs(caught.exception.place, wrong)

    def test_no_place_of_wanted_behind_left(self):
        for wrong in WRONG_PLACES:
            for thing in (None, [0] * 10):
                with self.assertRaises(NoPlace) as caught:
                    is_ghost(thing, [0, 1], wrong)
                self.assertIs(caught.exception.place, wrong)

    def test_left_stays_as_it_was(self):
        for asked in (all_told, recipes, lambda left: is_recipe(Recipe(3, [0], [1]), left),
                      lambda left: is_ghost([0] * 10, left, 0)):
            left = [5, 0, 5, 9, 3]
            asked(left)
            self.assertEqual(left, [5, 0, 5, 9, 3])


if __name__ == "__main__":
    unittest.main()
