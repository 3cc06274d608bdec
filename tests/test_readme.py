"""README.md: its lines, run one after the other, tell what stands behind them; files and orders are named in it."""

import ast
import pathlib
import unittest

from sherdhall.desk import Desk

README = pathlib.Path(__file__).resolve().parent.parent / "README.md"
FOLDER = README.parent / "sherdhall"
TEXT = README.read_text(encoding="utf-8")


def blocks():
    """The texts of the program that stand in README.md."""
    return [part.split("```")[0] for part in TEXT.split("```python\n")[1:]]


def worth_of(node, names):
    """What a statement tells, or assigns to a name; None of any other one."""
    if isinstance(node, ast.Expr):
        return eval(compile(ast.Expression(node.value), "README.md", "eval"), names)
    exec(compile(ast.Module([node], []), "README.md", "exec"), names)
    return names[node.targets[0].id] if isinstance(node, ast.Assign) else None


class Readme(unittest.TestCase):

    def test_what_stands_behind_a_line_is_what_it_tells(self):
        names, held = {}, 0
        for block in blocks():
            lines = block.split("\n")
            for node in ast.parse(block).body:
                told = lines[node.end_lineno - 1].partition("# ")[2].strip()
                worth = worth_of(node, names)
                if told and worth is not None and ".." not in told:
                    shown = repr(worth).replace("'", '"')
                    self.assertTrue(told.startswith(shown), (told, shown))
                    self.assertFalse(told[len(shown):len(shown) + 1].isalnum(), told)
                    held += 1
        self.assertTrue(held > 25, held)

    def test_each_file_is_named(self):
        for path in FOLDER.glob("*.py"):
            if path.name != "__init__.py":
                self.assertIn(f"`{path.name}`", TEXT)

    def test_each_order_is_named(self):
        for word in Desk().order_words():
            self.assertTrue(f"`{word}`" in TEXT or f"`{word} " in TEXT, word)


if __name__ == "__main__":
    unittest.main()
