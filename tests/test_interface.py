"""The interface: each name in its own file, with the arguments that DOC.md lists."""

import importlib
import inspect
import unittest

from samples import PLAIN

# File, name, arguments by their places, arguments by their names.
FUNCTIONS = [
    ("field", "plus", ["one", "other"], []), ("field", "minus", ["one", "other"], []),
    ("field", "times", ["one", "other"], []), ("field", "power", ["one", "many"], []),
    ("field", "over", ["one", "other"], []),
    ("shapes", "is_shape", ["thing"], []), ("shapes", "count", [], ["shape"]),
    ("shapes", "data_places", [], ["shape"]), ("shapes", "kind_of", ["place"], ["shape"]),
    ("shapes", "mark", ["place"], ["shape"]), ("shapes", "checks", [], ["shape"]),
    ("shapes", "is_filling", ["thing"], ["shape"]),
    ("laying", "is_row", ["thing"], []), ("laying", "cells_for", ["many"], ["shape"]),
    ("laying", "laid", ["row"], ["shape"]), ("laying", "unlaid", ["pieces", "many"], ["shape"]),
    ("laying", "needed", ["first", "behind"], ["shape"]),
    ("mending", "recipe", ["left", "wanted"], ["shape"]), ("mending", "recipes", ["left"], ["shape"]),
    ("mending", "all_told", ["left"], ["shape"]), ("mending", "mended", ["pieces", "wanted"], ["shape"]),
    ("mending", "row_of", ["pieces", "many"], ["shape"]), ("mending", "is_recipe", ["thing", "left"], ["shape"]),
    ("mending", "is_ghost", ["thing", "left", "wanted"], ["shape"]),
    ("least", "least_recipe", ["left", "wanted"], ["shape"]), ("least", "no_fewer", ["left", "wanted"], ["shape"]),
    ("least", "shows", ["fillings", "left", "wanted", "many"], ["shape"]),
    ("cards", "made_card", ["ticket", "place", "cells"], []), ("cards", "looked", ["card", "ticket", "place"], []),
    ("cards", "cells_of", ["card"], []),
]
# File, name, arguments, and the methods with theirs.
CLASSES = [
    ("mending", "Recipe", ["wanted", "reads", "factors"],
     {"made": ["pieces"], "__eq__": ["other"], "__len__": [], "__repr__": []}),
]
VALUES = [("field", "PRIME", 97), ("shapes", "PLAIN", (2, 3, 2)), ("shapes", "MARKS", (1, 11, 40, 30)),
          ("laying", "MOST", 60)]


def arguments(told, kinds):
    """The names of the arguments of these kinds."""
    return [one.name for one in inspect.signature(told).parameters.values() if one.kind in kinds]


class Interface(unittest.TestCase):

    def test_functions_stand_in_their_files_with_their_arguments(self):
        one = inspect.Parameter
        for file, name, places, names in FUNCTIONS:
            with self.subTest(file=file, name=name):
                told = vars(importlib.import_module("sherdhall." + file))[name]
                self.assertTrue(inspect.isfunction(told))
                self.assertEqual(told.__module__, "sherdhall." + file)
                self.assertEqual(arguments(told, (one.POSITIONAL_OR_KEYWORD, one.POSITIONAL_ONLY)), places)
                self.assertEqual(arguments(told, (one.KEYWORD_ONLY,)), names)
                self.assertEqual(arguments(told, (one.VAR_POSITIONAL, one.VAR_KEYWORD)), [])
                for argument in names:
                    self.assertEqual(inspect.signature(told).parameters[argument].default, PLAIN)

    def test_classes_stand_in_their_files_with_their_own_methods(self):
        for file, name, places, methods in CLASSES:
            with self.subTest(file=file, name=name):
                told = vars(importlib.import_module("sherdhall." + file))[name]
                self.assertTrue(inspect.isclass(told))
                self.assertEqual(told.__module__, "sherdhall." + file)
                self.assertEqual(list(inspect.signature(told).parameters), places)
                for method, others in methods.items():
                    self.assertIn(method, vars(told))
                    self.assertEqual(list(inspect.signature(vars(told)[method]).parameters)[1:], others)

    def test_values_stand_in_their_files(self):
        for file, name, worth in VALUES:
            told = vars(importlib.import_module("sherdhall." + file))[name]
            self.assertEqual(told, worth)
            self.assertIs(type(told), type(worth))


if __name__ == "__main__":
    unittest.main()
