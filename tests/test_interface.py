"""The interface: each name in its own file, with the arguments that DOC.md lists."""

import importlib
import inspect
import unittest

SHAPED = "*, shape=(2, 3, 2))"
FUNCTIONS = {
    "field": {"plus": "(one, other)", "minus": "(one, other)", "times": "(one, other)", "power": "(one, many)",
              "over": "(one, other)"},
    "shapes": {"is_shape": "(thing)", "count": "(" + SHAPED, "data_places": "(" + SHAPED,
               "kind_of": "(place, " + SHAPED, "mark": "(place, " + SHAPED, "checks": "(" + SHAPED,
               "is_filling": "(thing, " + SHAPED},
    "laying": {"is_row": "(thing)", "cells_for": "(many, " + SHAPED, "laid": "(row, " + SHAPED,
               "unlaid": "(pieces, many, " + SHAPED, "needed": "(first, behind, " + SHAPED},
    "mending": {"recipe": "(left, wanted, " + SHAPED, "recipes": "(left, " + SHAPED, "all_told": "(left, " + SHAPED,
                "mended": "(pieces, wanted, " + SHAPED, "row_of": "(pieces, many, " + SHAPED,
                "is_recipe": "(thing, left, " + SHAPED, "is_ghost": "(thing, left, wanted, " + SHAPED},
    "least": {"least_recipe": "(left, wanted, " + SHAPED, "no_fewer": "(left, wanted, " + SHAPED,
              "shows": "(fillings, left, wanted, many, " + SHAPED},
    "cards": {"made_card": "(ticket, place, cells)", "looked": "(card, ticket, place)", "cells_of": "(card)"},
    "book": {"is_row": "(thing)", "is_torn": "(row)", "right_book": "(books)"},
    "table": {"replay": "(rows)"},
    "reading": {"readable": "(ground, ticket, homes)"},
    "scrub": {"scrub": "(store)"},
    "care": {"mend": "(store, ticket, place, *, into=None)", "sweep": "(store)", "forget": "(store, hour)",
             "fold": "(store)"},
    "scores": {"number_of": "(name)", "score": "(town, name, house)", "room": "(town, *, zone)",
               "first_set": "(town, name, *, pieces, zone)", "is_right": "(town, homes, *, pieces, zone)"},
    "homes": {"loads": "(table)", "is_within": "(town, table, *, zone, level)", "many_moves": "(table, other)",
              "paired": "(town, homes, houses)"},
    "papers": {"worth": "(town, table, paper, *, zone, level)"},
    "settling": {"settle": "(town, table, *, zone, level=None, moves=None)", "stairs": "(town, table, *, zone)"},
    "moves": {"moves_of": "(town, table, other)", "moved": "(table, moves)", "rounds": "(moves, *, lanes=2)",
              "is_rounds": "(moves, told, *, lanes=2)", "neck": "(moves)"},
    "texts": {"show_town": "(town)", "show_table": "(table)", "show_move": "(move)", "read_town": "(text)",
              "read_table": "(text)"},
}
# Of each class its methods; __init__ as it is called.
CLASSES = {
    ("mending", "Recipe"): {
        "__init__": "(self, wanted, reads, factors)", "made": "(self, pieces)", "__eq__": "(self, other)",
        "__len__": "(self)", "__repr__": "(self)"},
    ("ground", "Ground"): {
        "__init__": "(self, names, *, fuse=None)", "add_house": "(self, name)", "houses": "(self)",
        "is_up": "(self, name)", "drawers": "(self, name)", "card": "(self, name, key)", "down": "(self, name)",
        "up": "(self, name)", "lose": "(self, name)", "take": "(self, name, key)",
        "change": "(self, name, key, *, at, by)", "exchange": "(self, name, key, other, other_key)",
        "lay_card": "(self, name, card)", "pull": "(self, name, key)", "strike": "(self, which, row)",
        "cut_off": "(self, which)", "empty": "(self, which)", "book_rows": "(self, which)", "is_dark": "(self)",
        "fuse_left": "(self)", "members_written": "(self)", "newest_turn": "(self)", "lit": "(self, *, fuse=None)",
        "set_fuse": "(self, many=None)", "twin": "(self)"},
    ("table", "Table"): {
        "next_ticket": "(self)", "next_hour": "(self)", "least_hour": "(self)", "kept_tickets": "(self)",
        "unsealed_tickets": "(self)", "ticket_at": "(self, name, hour)", "names_at": "(self, hour)",
        "hours_of": "(self, name)", "about_ticket": "(self, ticket)"},
    ("store", "Store"): {
        "__init__": "(self, ground)", "begin": "(self, name, row, *, homes, shape=(2, 3, 2))",
        "lay": "(self, ticket, place)", "seal": "(self, ticket)", "give_up": "(self, ticket)",
        "put": "(self, name, row, *, homes, shape=(2, 3, 2))", "drop": "(self, name)",
        "read": "(self, name, *, at=None)", "read_by": "(self, name, *, at=None)",
        "why_lost": "(self, name, *, at=None)", "hours": "(self, name)", "names": "(self, *, at=None)",
        "kept": "(self)", "open_tickets": "(self)", "about": "(self, ticket)", "is_busy": "(self)",
        "entries": "(self)", "__eq__": "(self, other)", "__len__": "(self)", "__repr__": "(self)"},
    ("town", "Town"): {
        "__init__": "(self, rows=())", "listed": "(self)", "house_names": "(self)", "zone_names": "(self)",
        "zone_of": "(self, name)", "weight_of": "(self, name)", "with_house": "(self, name, zone, weight)",
        "weighing": "(self, name, weight)", "without": "(self, name)", "__eq__": "(self, other)",
        "__len__": "(self)", "__repr__": "(self)"},
    ("papers", "Paper"): {
        "__init__": "(self, for_tickets, for_zones, for_houses)", "__eq__": "(self, other)"},
    ("settling", "Settling"): {},
    ("keeper", "Keeper"): {
        "__init__": "(self, ground, town, *, shape=(2, 3, 2), zone=3)", "limit": "(self)", "use": "(self, town)",
        "usable": "(self)", "put": "(self, name, row)", "read": "(self, name, *, at=None)", "drop": "(self, name)",
        "table": "(self)", "resettle": "(self, *, level=None, moves=None)", "plan": "(self)", "step": "(self)"},
    ("desk", "Desk"): {
        "__init__": "(self, *, shape=(2, 3, 2), zone=3)", "say": "(self, row)", "say_all": "(self, orders)",
        "is_open": "(self)", "depth": "(self)", "trail": "(self)", "order_words": "(self)"},
}
VALUES = [("field", "PRIME", 97), ("shapes", "PLAIN", (2, 3, 2)), ("shapes", "MARKS", (1, 11, 40, 30)),
          ("laying", "MOST", 60), ("moves", "LANES", 2), ("keeper", "ZONE", 3)]


class Interface(unittest.TestCase):

    def test_functions_stand_in_their_files_with_their_arguments(self):
        for file, functions in FUNCTIONS.items():
            for name, arguments in functions.items():
                with self.subTest(file=file, name=name):
                    told = vars(importlib.import_module("sherdhall." + file))[name]
                    self.assertTrue(inspect.isfunction(told))
                    self.assertEqual(told.__module__, "sherdhall." + file)
                    self.assertEqual(str(inspect.signature(told)), arguments)

    def test_classes_stand_in_their_files_with_their_own_methods(self):
        for (file, name), methods in CLASSES.items():
            told = vars(importlib.import_module("sherdhall." + file))[name]
            self.assertTrue(inspect.isclass(told))
            self.assertEqual(told.__module__, "sherdhall." + file)
            for method, arguments in methods.items():
                with self.subTest(file=file, name=name, method=method):
                    self.assertIn(method, vars(told))
                    self.assertEqual(str(inspect.signature(vars(told)[method])), arguments)

    def test_values_stand_in_their_files(self):
        for file, name, worth in VALUES:
            told = vars(importlib.import_module("sherdhall." + file))[name]
            self.assertEqual(told, worth)
            self.assertIs(type(told), type(worth))


if __name__ == "__main__":
    unittest.main()
