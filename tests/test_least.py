"""[25] to [27]: the fewest reads, and what shows that fewer are not enough."""

import unittest

from sherdhall.errors import Hidden, NoPlace, NoShape
from sherdhall.least import least_recipe, no_fewer, shows
from sherdhall.mending import Recipe, is_ghost, is_recipe
from samples import (NO_SHAPES, NO_WHOLES, PLAIN, SMALL, TEN, data_of, filling_of, kinds, lists_of, muddled, ones_of,
                     some_lists, told_places)

WHOLE = [(1, 1, 0), (1, 1, 2), (1, 2, 2), (2, 1, 2), (2, 2, 1), (3, 1, 1), (1, 4, 2)]


def fewest(left, wanted, shape):
    """How many reads are enough, found by going through all lists of left places; None where none is."""
    places = sorted(set(left))
    if wanted not in told_places(tuple(places), shape):
        return None
    for many in range(1, len(places) + 1):
        for chosen in lists_of(places, many, many):
            if wanted in told_places(chosen, shape):
                return many
    return None


def does_show(fillings, left, wanted, many):
    """Whether each list of at most so many places of left is missed, and no filling is 0 at wanted."""
    lists = lists_of(sorted(set(left)), 0, many)
    missed = all(any(not any(filling[place] for place in chosen) for filling in fillings) for chosen in lists)
    return missed and all(filling[wanted] != 0 for filling in fillings)


class Fewest(unittest.TestCase):

    def held_against_all_lists(self, left, wanted, shape):
        due = fewest(left, wanted, shape)
        if due is None:
            for asked in (least_recipe, no_fewer):
                with self.assertRaises(Hidden) as caught:
                    asked(left, wanted, shape=shape)
                self.assertEqual(caught.exception.place, wanted)
                self.assertTrue(is_ghost(caught.exception.ghost, left, wanted, shape=shape))
            return
        one = least_recipe(left, wanted, shape=shape)
        self.assertEqual(len(one), due)
        self.assertEqual(one.wanted, wanted)
        self.assertTrue(is_recipe(one, left, shape=shape))
        if wanted in left:
            self.assertEqual(one, Recipe(wanted, [wanted], [1]))
        self.no_fewer_shows_it(left, wanted, shape, due)

    def no_fewer_shows_it(self, left, wanted, shape, reads):
        fillings = no_fewer(left, wanted, shape=shape)
        self.assertIs(type(fillings), list)
        self.assertTrue(1 <= len(fillings) <= 130)
        ones = ones_of(shape)
        data = data_of(shape)
        for filling in fillings:
            self.assertEqual(filling, filling_of([filling[place] for place in data], shape))
            self.assertEqual(len(filling), len(ones[0]))
            self.assertNotEqual(filling[wanted], 0)
        self.assertIs(shows(fillings, left, wanted, reads - 1, shape=shape), True)
        self.assertIs(shows(fillings, left, wanted, reads, shape=shape), False)
        self.assertTrue(does_show(fillings, left, wanted, reads - 1))

    def test_every_list_of_left_places_of_small_shapes(self):
        for shape in WHOLE:
            places = range(len(kinds(shape)))
            for left in lists_of(places, 0, len(places)):
                for wanted in places:
                    self.held_against_all_lists(list(left), wanted, shape)

    def test_some_lists_of_all_small_shapes_muddled(self):
        for shape in SMALL:
            for left in some_lists(shape, 6, 4):
                for wanted in range(len(kinds(shape))):
                    self.held_against_all_lists(muddled(left), wanted, shape)

    def test_shapes_of_ten_places_of_which_one_is_lost(self):
        self.assertIn(PLAIN, TEN)
        for shape in TEN:
            for wanted in range(10):
                left = [place for place in range(10) if place != wanted]
                self.held_against_all_lists(left, wanted, shape)

    def test_some_lists_of_shapes_of_ten_places(self):
        for shape in TEN:
            for left in some_lists(shape, 6, 9):
                for wanted in range(0, 10, 3):
                    self.held_against_all_lists(list(left), wanted, shape)

    def test_plain_by_hand(self):
        every = list(range(10))
        self.assertEqual(least_recipe([place for place in every if place != 3], 3), Recipe(3, [0, 1, 2], [1, 1, 1]))
        self.assertEqual(len(least_recipe([2, 4, 5, 6, 7, 8, 9, 3], 0)), 6)
        self.assertEqual(len(no_fewer(every, 5)), 1)
        self.assertEqual(len(least_recipe(every, 5)), 1)

    def test_asked_again_told_alike_and_the_askers_own(self):
        left = [2, 4, 5, 6, 7, 8, 9, 3, 3]
        first, second = least_recipe(left, 0), least_recipe(left, 0)
        self.assertEqual(first, second)
        first.reads.clear()
        self.assertEqual(least_recipe(left, 0), second)
        shown, again = no_fewer(left, 0), no_fewer(left, 0)
        self.assertEqual(shown, again)
        lists = shown + again + [shown, again]
        self.assertEqual(len({id(one) for one in lists}), len(lists))
        shown[0].clear()
        self.assertEqual(no_fewer(left, 0), again)
        self.assertEqual(left, [2, 4, 5, 6, 7, 8, 9, 3, 3])


class Shows(unittest.TestCase):

    def test_just_where_each_list_is_missed(self):
        seen = []
        for shape in (PLAIN, (2, 1, 2), (1, 2, 1), (4, 1, 2)):
            ones = ones_of(shape)
            pairs = [[(one + 96 * other) % 97 for one, other in zip(ones[0], filling)] for filling in ones[1:]]
            for left in some_lists(shape, 4, 2) + [(), (1,), (1, 1)]:
                for wanted in (0, 1, len(ones[0]) - 1):
                    fillings = [filling for filling in ones + pairs if filling[wanted] != 0]
                    for some in (fillings, fillings[:1], fillings[::2], []):
                        for many in range(11):
                            due = does_show(some, left, wanted, many)
                            self.assertIs(shows(some, muddled(left), wanted, many, shape=shape), due)
                            seen.append(due)
        self.assertEqual(set(seen), {True, False})

    def test_of_none_any_list_with_a_filling_does(self):
        self.assertIs(shows([ones_of(PLAIN)[0]], list(range(10)), 0, 0), True)
        self.assertIs(shows([], list(range(10)), 0, 0), False)
        self.assertIs(shows([], [], 0, 0), False)
        self.assertIs(shows([], [], 0, 5), False)

    def test_where_many_is_not_less_than_what_is_left_all_of_it_is_missed(self):
        filling = filling_of([1, 96, 0, 0, 0, 0], PLAIN)
        for many in range(11):
            self.assertIs(shows([filling], [2, 3, 2, 3], 0, many), True)
            self.assertIs(shows([filling], [2, 3, 8], 0, many), many == 0)
        with self.assertRaises(Hidden):
            least_recipe([2, 3], 0)

    def test_one_of_many_fillings_that_is_0_at_wanted(self):
        left = [place for place in range(10) if place != 3]
        fillings = no_fewer(left, 3)
        nought = filling_of([0, 0, 0, 1, 0, 0], PLAIN)
        self.assertEqual(nought[3], 0)
        self.assertIs(shows(fillings, left, 3, 2), True)
        self.assertIs(shows(fillings + [nought], left, 3, 2), False)
        self.assertIs(shows([nought] + fillings, left, 3, 2), False)
        self.assertIs(shows([[0] * 10], left, 3, 0), False)

    def test_of_anything_else_as_fillings(self):
        left = [place for place in range(10) if place != 3]
        fillings = no_fewer(left, 3)
        kept = [list(filling) for filling in fillings]
        wrong = NO_WHOLES + [tuple(fillings), fillings[0], dict(enumerate(fillings)), "fillings", [[]], [None], [3]]
        wrong += [fillings + [thing] for thing in NO_WHOLES + [tuple(fillings[0]), fillings[0][:-1], fillings[0] + [0]]]
        wrong += [fillings + [[fillings[0][0] + by] + fillings[0][1:]] for by in (1, 97, -97)]
        for thing in wrong:
            for many in (0, 2, 10):
                self.assertIs(shows(thing, left, 3, many), False)
        self.assertEqual(fillings, kept)
        self.assertIs(shows(fillings, left, 3, 2), True)

    def test_a_list_that_lacks_one_that_is_due(self):
        filling = filling_of([1, 0, 0, 0, 0, 0], PLAIN)
        self.assertIs(shows([filling], [1, 2, 0], 3, 0), True)
        self.assertIs(shows([filling], [1, 2, 0], 3, 1), False)
        self.assertIs(shows([filling, filling_of([0, 1, 0, 0, 0, 0], PLAIN)], [1, 2, 0], 3, 1), True)
        self.assertIs(shows([filling, filling_of([0, 1, 0, 0, 0, 0], PLAIN)], [1, 2, 0], 3, 2), False)


class Refused(unittest.TestCase):

    def test_no_shape_ahead_of_all_else(self):
        for asked in (
                lambda shape: least_recipe([0], 0, shape=shape), lambda shape: least_recipe(["x"], "y", shape=shape),
                lambda shape: no_fewer([0], 0, shape=shape), lambda shape: no_fewer(["x"], "y", shape=shape),
                lambda shape: shows([], [0], 0, 1, shape=shape), lambda shape: shows(None, ["x"], "y", 1, shape=shape)):
            for thing in NO_SHAPES:
                with self.assertRaises(NoShape) as caught:
                    asked(thing)
                self.assertIs(caught.exception.shape, thing)

    def test_no_place_first_of_left_then_of_wanted(self):
        for asked in (least_recipe, no_fewer, lambda left, wanted: shows([], left, wanted, 2),
                      lambda left, wanted: shows(None, left, wanted, 0)):
            for wrong in NO_WHOLES + [-1, 10, 10 ** 59]:
                for left, wanted in (([wrong], 0), ([0, wrong, None], 77), ([0, 1], wrong), ([], wrong)):
                    with self.assertRaises(NoPlace) as caught:
                        asked(left, wanted)
                    self.assertIs(caught.exception.place, wrong)


if __name__ == "__main__":
    unittest.main()
