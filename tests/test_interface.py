"""The interface's names, as far as they are built: the files, classes and members."""

import ast
import importlib
import inspect
import pathlib
import unittest

from looseknobs.ratios import Ratio
from looseknobs.words import Word

ROOT = pathlib.Path(__file__).resolve().parent.parent

CLASSES = {
    "ratios": {"Ratio": ("of", "divided")},
    "words": {"Word": ("bent", "passes")},
}

PARAMETERS = (
    (Ratio, ["number", "under"]),
    (Ratio.of, ["text"]),
    (Ratio(1).divided, ["other"]),
    (Word, ["text"]),
    (Word("X").bent, ["other"]),
    (Word("X").passes, ["other"]),
)


class InterfaceTest(unittest.TestCase):
    def test_defined_in_its_file(self):
        for module, classes in CLASSES.items():
            tree = ast.parse((ROOT / "looseknobs" / (module + ".py")).read_text())
            found = {node.name: node for node in tree.body if isinstance(node, ast.ClassDef)}
            for name, methods in classes.items():
                self.assertIn(name, found)
                self.assertEqual(getattr(importlib.import_module("looseknobs." + module), name).__name__, name)
                own = [node.name for node in found[name].body if isinstance(node, ast.FunctionDef)]
                for method in methods:
                    self.assertIn(method, own)

    def test_parameters(self):
        for told, names in PARAMETERS:
            self.assertEqual(list(inspect.signature(told).parameters), names)

    def test_attributes(self):
        for made, names in ((Ratio(2, 4), ("number", "under", "text")), (Word("-X"), ("text", "letters", "sign"))):
            for name in names:
                self.assertTrue(hasattr(made, name))
                self.assertFalse(callable(getattr(made, name)))


if __name__ == "__main__":
    unittest.main()
