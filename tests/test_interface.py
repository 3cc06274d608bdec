"""The interface: each name in its own file, with the arguments that DOC.md lists."""

import importlib
import inspect
import unittest

from samples import PLAIN

# File, name, arguments by their places, arguments by their names.
FUNCTIONS = [
    ("field", "plus", ["one", "other"], []), ("field", "minus", ["one", "other"], []),
    ("field", "times", ["one", "other"], []), ("field", "power", ["one", "many"], []),
    ("field", "over", ["one", "other"], []),
    ("shapes", "is_shape", ["thing"], []), ("shapes", "count", [], ["shape"]),
    ("shapes", "data_places", [], ["shape"]), ("shapes", "kind_of", ["place"], ["shape"]),
    ("shapes", "mark", ["place"], ["shape"]), ("shapes", "checks", [], ["shape"]),
    ("shapes", "is_filling", ["thing"], ["shape"]),
]
VALUES = [("field", "PRIME", 97), ("shapes", "PLAIN", (2, 3, 2)), ("shapes", "MARKS", (1, 11, 40, 30))]


def arguments(told, kinds):
    """The names of the arguments of these kinds."""
    return [one.name for one in inspect.signature(told).parameters.values() if one.kind in kinds]


class Interface(unittest.TestCase):

    def test_functions_stand_in_their_files_with_their_arguments(self):
        one = inspect.Parameter
        for file, name, places, names in FUNCTIONS:
            with self.subTest(file=file, name=name):
                told = vars(importlib.import_module("sherdhall." + file))[name]
                self.assertTrue(inspect.isfunction(told))
                self.assertEqual(told.__module__, "sherdhall." + file)
                self.assertEqual(arguments(told, (one.POSITIONAL_OR_KEYWORD, one.POSITIONAL_ONLY)), places)
                self.assertEqual(arguments(told, (one.KEYWORD_ONLY,)), names)
                self.assertEqual(arguments(told, (one.VAR_POSITIONAL, one.VAR_KEYWORD)), [])
                for argument in names:
                    self.assertEqual(inspect.signature(told).parameters[argument].default, PLAIN)

    def test_values_stand_in_their_files(self):
        for file, name, worth in VALUES:
            told = vars(importlib.import_module("sherdhall." + file))[name]
            self.assertEqual(told, worth)
            self.assertIs(type(told), type(worth))


if __name__ == "__main__":
    unittest.main()
