"""[19] to [21]: what is told by what is left, and by which recipe, or which ghost shows that it is not."""

import copy
import unittest

from sherdhall.errors import Hidden, NoPlace, NoShape, SherdError
from sherdhall.laying import laid
from sherdhall.mending import Recipe, is_ghost, is_recipe, recipe
from sherdhall.shapes import is_filling
from samples import (NO_SHAPES, NO_WHOLES, PLAIN, SHAPES, filling_of, kinds, lists_of, muddled, ones_of, some_lists,
                     some_numbers, told_places)

WHOLE = [(1, 1, 0), (1, 1, 2), (1, 2, 1), (2, 1, 2), (2, 2, 1), (1, 4, 2), (3, 1, 1), (2, 3, 0)]


class TheClass(unittest.TestCase):

    def test_fields(self):
        one = Recipe(3, [0, 1, 2], [1, 1, 1])
        self.assertEqual((one.wanted, one.reads, one.factors), (3, [0, 1, 2], [1, 1, 1]))
        self.assertIs(type(one.reads), list)
        self.assertIs(type(one.factors), list)

    def test_its_lists_are_its_own(self):
        reads, factors = [0, 1], [5, 6]
        one, other = Recipe(2, reads, factors), Recipe(2, reads, factors)
        reads.append(7)
        factors[0] = 9
        self.assertEqual((one.reads, one.factors), ([0, 1], [5, 6]))
        one.reads.append(4)
        one.factors.clear()
        self.assertEqual((other.reads, other.factors), ([0, 1], [5, 6]))
        self.assertEqual((one.reads, one.factors), ([0, 1, 4], []))

    def test_equal(self):
        self.assertTrue(Recipe(1, [0], [5]) == Recipe(1, [0], [5]))
        self.assertFalse(Recipe(1, [0], [5]) != Recipe(1, [0], [5]))
        self.assertTrue(Recipe(1, [], []) == Recipe(1, [], []))
        for other in (Recipe(2, [0], [5]), Recipe(1, [2], [5]), Recipe(1, [0], [6]), Recipe(1, [0, 2], [5, 5]),
                      Recipe(1, [], []), Recipe(1, [0], []), Recipe(1, [0], [5, 5])):
            self.assertFalse(Recipe(1, [0], [5]) == other)
            self.assertTrue(Recipe(1, [0], [5]) != other)

    def test_equal_to_nothing_else(self):
        for other in NO_WHOLES + [1, (1, [0], [5]), [1, [0], [5]], "Recipe(1, [0], [5])", {"wanted": 1}]:
            self.assertIs(Recipe(1, [0], [5]) == other, False)
            self.assertIs(other == Recipe(1, [0], [5]), False)

    def test_len(self):
        self.assertEqual([len(Recipe(9, list(range(many)), [1] * many)) for many in range(5)], [0, 1, 2, 3, 4])

    def test_repr(self):
        self.assertEqual(repr(Recipe(3, [0, 1, 2], [1, 96, 5])), "Recipe(3, [0, 1, 2], [1, 96, 5])")
        self.assertEqual(repr(Recipe(0, [], [])), "Recipe(0, [], [])")
        self.assertEqual(repr(Recipe(12, [12], [1])), "Recipe(12, [12], [1])")

    def test_made(self):
        pieces = {0: [1, 2, 96], 2: [50, 0, 96], 5: [7, 7, 7]}
        self.assertEqual(Recipe(9, [0, 2], [1, 1]).made(pieces), [51, 2, 95])
        self.assertEqual(Recipe(9, [0, 2], [96, 2]).made(pieces), [2, 95, 96])
        self.assertEqual(Recipe(9, [5], [3]).made(pieces), [21, 21, 21])
        self.assertEqual(Recipe(9, [0], [1]).made({0: []}), [])

    def test_made_of_no_reads_has_no_cells(self):
        self.assertEqual(Recipe(9, [], []).made({0: [1, 2]}), [])
        self.assertEqual(Recipe(9, [], []).made({}), [])

    def test_made_refuses_the_first_of_reads_that_lacks(self):
        pieces = {0: [1], 2: [3], 4: [5]}
        for reads, place in (([0, 1, 2, 3], 1), ([3, 1], 3), ([1, 3], 1), ([0, 2, 4, 9], 9), ([7], 7)):
            with self.assertRaises(NoPlace) as caught:
                Recipe(8, reads, [1] * len(reads)).made(pieces)
            self.assertEqual(caught.exception.place, place)

    def test_made_changes_nothing_and_is_the_askers_own(self):
        pieces = {0: [1, 2], 2: [3, 4]}
        kept = copy.deepcopy(pieces)
        one = Recipe(0, [0], [1])
        told = one.made(pieces)
        self.assertEqual(told, [1, 2])
        self.assertIsNot(told, pieces[0])
        told.append(5)
        self.assertEqual(one.made(pieces), [1, 2])
        self.assertEqual(pieces, kept)
        self.assertEqual(one, Recipe(0, [0], [1]))


class Told(unittest.TestCase):

    def told_or_hidden(self, left, wanted, shape):
        """Ask for a recipe, and hold what comes against the fillings."""
        ones = ones_of(shape)
        try:
            one = recipe(left, wanted, shape=shape)
        except Hidden as hidden:
            self.assertEqual(hidden.place, wanted)
            self.assertIs(type(hidden.ghost), list)
            self.assertEqual(hidden.ghost, filling_of([hidden.ghost[at] for at, kind in enumerate(kinds(shape))
                                                       if kind[0] == "data"], shape))
            self.assertTrue(is_filling(hidden.ghost, shape=shape))
            self.assertEqual([hidden.ghost[place] for place in left], [0] * len(left))
            self.assertNotEqual(hidden.ghost[wanted], 0)
            self.assertTrue(is_ghost(hidden.ghost, left, wanted, shape=shape))
            return False
        self.assertIsInstance(one, Recipe)
        self.assertEqual(one.wanted, wanted)
        self.assertEqual(one.reads, sorted(set(one.reads)))
        self.assertTrue(set(one.reads) <= set(left))
        self.assertEqual(len(one.reads), len(one.factors))
        self.assertTrue(all(type(number) is int and 1 <= number <= 96 for number in one.factors))
        for filling in ones:
            told = sum(factor * filling[place] for factor, place in zip(one.factors, one.reads)) % 97
            self.assertEqual(told, filling[wanted])
        self.assertTrue(is_recipe(one, left, shape=shape))
        if wanted in left:
            self.assertEqual(one, Recipe(wanted, [wanted], [1]))
        return True

    def test_every_list_of_left_places_of_small_shapes(self):
        for shape in WHOLE:
            places = range(len(kinds(shape)))
            for left in lists_of(places, 0, len(places)):
                told = [place for place in places if self.told_or_hidden(list(left), place, shape)]
                self.assertEqual(told, told_places(left, shape))

    def test_lists_of_left_places_of_plain(self):
        for left in lists_of(range(10), 0, 10)[::3]:
            told = [place for place in range(10) if self.told_or_hidden(list(left), place, PLAIN)]
            self.assertEqual(told, told_places(left, PLAIN))

    def test_some_lists_of_every_shape(self):
        for shape in SHAPES:
            for left in some_lists(shape, 8):
                places = range(len(kinds(shape)))
                told = [place for place in places if self.told_or_hidden(list(left), place, shape)]
                self.assertEqual(told, told_places(left, shape))

    def test_left_in_any_order_and_twice(self):
        for shape in [PLAIN, (2, 2, 1), (4, 4, 2), (1, 4, 2), (3, 2, 0)]:
            for left in some_lists(shape, 12, 5):
                places = range(len(kinds(shape)))
                told = [place for place in places if self.told_or_hidden(muddled(left), place, shape)]
                self.assertEqual(told, told_places(left, shape))

    def test_by_hand(self):
        self.assertEqual(recipe([0, 1, 2], 3), Recipe(3, [0, 1, 2], [1, 1, 1]))
        self.assertEqual(recipe([3, 2, 0], 1), Recipe(1, [0, 2, 3], [96, 96, 1]))
        self.assertEqual(recipe([1], 0, shape=(1, 1, 0)), Recipe(0, [1], [1]))
        self.assertEqual(recipe([2], 0, shape=(1, 1, 1)), Recipe(0, [2], [1]))
        self.assertEqual(recipe([3], 2, shape=(2, 1, 0)), Recipe(2, [3], [1]))
        self.assertEqual(recipe([1, 2], 0, shape=(1, 2, 0)), Recipe(0, [1, 2], [96, 1]))

    def test_a_left_place_reads_itself_by_1(self):
        for shape in SHAPES:
            places = list(range(len(kinds(shape))))
            for wanted in places:
                self.assertEqual(recipe(places, wanted, shape=shape), Recipe(wanted, [wanted], [1]))
                self.assertEqual(recipe([wanted, wanted], wanted, shape=shape), Recipe(wanted, [wanted], [1]))

    def test_of_nothing_left_all_is_hidden(self):
        for shape in SHAPES:
            for wanted in range(len(kinds(shape))):
                self.assertFalse(self.told_or_hidden([], wanted, shape))

    def test_a_ghost_added_agrees_at_all_of_left_and_not_at_wanted(self):
        left = [0, 3, 4, 8]
        filling = filling_of([5, 6, 7, 8, 9, 10], PLAIN)
        with self.assertRaises(Hidden) as caught:
            recipe(left, 1)
        other = [(one + two) % 97 for one, two in zip(filling, caught.exception.ghost)]
        self.assertTrue(is_filling(other))
        self.assertEqual([other[place] for place in left], [filling[place] for place in left])
        self.assertNotEqual(other[1], filling[1])

    def test_it_makes_what_was_laid(self):
        for shape in SHAPES:
            pieces = laid(some_numbers(60, 9), shape=shape)
            for left in some_lists(shape, 4, 7):
                for wanted in told_places(left, shape):
                    self.assertEqual(recipe(list(left), wanted, shape=shape).made(pieces), pieces[wanted])

    def test_asked_again_told_alike_and_the_askers_own(self):
        left = [9, 8, 7, 6, 5, 4, 2]
        first, second = recipe(left, 0), recipe(left, 0)
        self.assertEqual(first, second)
        first.reads.clear()
        first.factors.append(1)
        self.assertEqual(recipe(left, 0), second)
        self.assertEqual(left, [9, 8, 7, 6, 5, 4, 2])
        ghosts = []
        for _ in range(2):
            with self.assertRaises(Hidden) as caught:
                recipe([1, 5], 0)
            ghosts.append(caught.exception.ghost)
        self.assertEqual(ghosts[0], ghosts[1])
        self.assertIsNot(ghosts[0], ghosts[1])
        ghosts[0].clear()
        with self.assertRaises(Hidden) as caught:
            recipe([1, 5], 0)
        self.assertEqual(caught.exception.ghost, ghosts[1])


class Refused(unittest.TestCase):

    def test_no_shape_ahead_of_all_else(self):
        for thing in NO_SHAPES:
            for left, wanted in (([0], 0), ([], 0), (["x"], "y"), ([99], 99)):
                with self.assertRaises(NoShape) as caught:
                    recipe(left, wanted, shape=thing)
                self.assertIs(caught.exception.shape, thing)

    def test_no_place_first_of_left_then_of_wanted(self):
        for wrong in NO_WHOLES + [-1, 10, 11, 10 ** 59]:
            for left, wanted in (([wrong], 0), ([0, 1, wrong], 0), ([0, wrong, 55], 0), ([0, wrong, None], 77),
                                 ([0, 1], wrong), ([], wrong), ([0, 0, wrong], "x")):
                with self.subTest(wrong=wrong, left=left):
                    with self.assertRaises(NoPlace) as caught:
                        recipe(left, wanted)
                    self.assertIs(caught.exception.place, wrong)

    def test_no_place_by_the_shape(self):
        for shape in SHAPES:
            many = len(kinds(shape))
            for left, wanted in (([many], 0), ([0], many), ([0, many], many + 1)):
                with self.assertRaises(NoPlace) as caught:
                    recipe(left, wanted, shape=shape)
                self.assertEqual(caught.exception.place, many)

    def test_what_is_refused_is_a_refusal(self):
        for asked in (lambda: recipe([], 0), lambda: recipe([], 10), lambda: recipe([], 0, shape=0)):
            self.assertRaises(SherdError, asked)


if __name__ == "__main__":
    unittest.main()
