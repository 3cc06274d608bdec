"""[3]: every refusal is of its own class, straight under SherdError, and keeps its fields."""

import unittest

from sherdhall import errors
from sherdhall.errors import SherdError

FIELDS = {
    "NoRest": ["number"], "NoShape": ["shape"], "NoPlace": ["place"], "NoRow": ["at"], "Hidden": ["place", "ghost"],
    "NoName": ["name"], "Taken": ["name"], "NoHouse": ["name"], "Down": ["name"], "NoCard": ["house", "key"],
    "Dark": ["written"], "NoBook": ["at"], "Stale": ["turn"], "NoObject": ["name"], "NoHour": ["hour"],
    "NoTicket": ["ticket"], "NoHomes": ["homes"], "NotAll": ["ticket", "lacking"],
    "Lost": ["name", "ticket", "lacking"], "NoWeight": ["weight"], "NoRoom": ["name", "need", "have"],
    "NoLevel": ["level", "least"], "NoMoves": ["most", "least"], "NoText": ["at"], "NoOrder": ["row"],
    "NotEmpty": ["name", "many"], "Stopped": ["number", "row"],
}
CLASSES = {name: getattr(errors, name) for name in FIELDS}


class Refusals(unittest.TestCase):

    def test_there_are_twenty_seven(self):
        self.assertEqual(len(FIELDS), 27)
        self.assertEqual(len(set(CLASSES.values())), 27)

    def test_sherd_error_is_a_value_error(self):
        self.assertTrue(issubclass(SherdError, ValueError))
        self.assertEqual(SherdError.__module__, "sherdhall.errors")

    def test_each_is_defined_in_errors_straight_under_sherd_error(self):
        for name, made in CLASSES.items():
            with self.subTest(name=name):
                self.assertEqual(made.__module__, "sherdhall.errors")
                self.assertEqual(made.__name__, name)
                self.assertEqual(made.__bases__, (SherdError,))

    def test_each_is_a_value_error_and_none_of_the_others(self):
        for name, fields in FIELDS.items():
            error = CLASSES[name](*[0 for _ in fields])
            with self.subTest(name=name):
                self.assertIsInstance(error, SherdError)
                self.assertIsInstance(error, ValueError)
                held = [other for other in CLASSES if isinstance(error, CLASSES[other])]
                self.assertEqual(held, [name])

    def test_each_keeps_just_what_was_handed_in_by_its_fields(self):
        for name, fields in FIELDS.items():
            things = [object() for _ in fields]
            error = CLASSES[name](*things)
            for field, thing in zip(fields, things):
                with self.subTest(name=name, field=field):
                    self.assertIs(getattr(error, field), thing)

    def test_fields_keep_things_of_every_kind(self):
        for thing in (None, True, 0, -5, 10 ** 59, "", "a", (), (1, 2), [1, [2]], {1: 2}):
            for name, fields in FIELDS.items():
                error = CLASSES[name](*[thing for _ in fields])
                for field in fields:
                    with self.subTest(name=name, field=field, thing=thing):
                        self.assertIs(getattr(error, field), thing)

    def test_each_is_raised_and_caught_by_its_name_and_by_sherd_error(self):
        for name, fields in FIELDS.items():
            with self.subTest(name=name):
                for caught in (CLASSES[name], SherdError, ValueError):
                    with self.assertRaises(caught):
                        raise CLASSES[name](*[1 for _ in fields])

    def test_one_made_later_leaves_an_earlier_one_as_it_is(self):
        for name, fields in FIELDS.items():
            first = CLASSES[name](*[1 for _ in fields])
            CLASSES[name](*[2 for _ in fields])
            with self.subTest(name=name):
                self.assertEqual([getattr(first, field) for field in fields], [1 for _ in fields])

    def test_each_wants_as_many_things_as_it_has_fields(self):
        for name, fields in FIELDS.items():
            for many in (len(fields) - 1, len(fields) + 1):
                with self.subTest(name=name, many=many), self.assertRaises(TypeError):
                    CLASSES[name](*[1 for _ in range(many)])


if __name__ == "__main__":
    unittest.main()
