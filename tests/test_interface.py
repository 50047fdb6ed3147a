"""The interface's names: the files, classes, members and parameters."""

import ast
import importlib
import inspect
import pathlib
import unittest

from looseknobs.benches import Bench
from looseknobs.circuits import Circuit
from looseknobs.desk import Desk
from looseknobs.ratios import Ratio
from looseknobs.spreads import spread
from looseknobs.starts import Start
from looseknobs.tables import Table
from looseknobs.waves import Wave
from looseknobs.words import Word

ROOT = pathlib.Path(__file__).resolve().parent.parent

CLASSES = {
    "ratios": {"Ratio": {"of": ["text"], "divided": ["other"]}},
    "words": {"Word": {"bent": ["other"], "passes": ["other"]}},
    "waves": {"Wave": {"at": ["setting"], "put": ["setting"], "slope": ["knob"]}},
    "circuits": {"Circuit": {"put": ["place", "line"], "without": ["number"]}},
    "spreads": {"Spread": {"part": ["letters"], "at": ["setting"]}},
    "starts": {"Start": {"sign_of": ["word"], "like": ["other"]}},
    "tables": {"Table": {"back": ["word"]}},
    "benches": {
        "Bench": {
            "put": ["place", "line"], "drop": ["number"], "exchange": ["number"], "fix": ["knob", "c", "s"], "loosen": ["knob"],
            "mean": ["word"], "read": ["word"], "undo": [], "redo": [], "trial": [], "keep": [], "tried": ["look", "keep"], "copy": [],
        },
    },
    "desk": {"Desk": {"say": ["line"]}},
}

MADE = {
    "Ratio": ["number", "under"], "Word": ["text"], "Wave": ["terms"], "Circuit": ["text"], "Start": ["words"], "Table": ["images"],
    "Bench": ["circuit", "start"], "Desk": ["text"],
}

FUNCTIONS = {
    "spreads": {"spread": ["circuit", "word"]},
    "likeness": {"same": ["one", "other"], "shows_same": ["one", "other", "value"]},
    "seeing": {
        "hidden": ["circuit"], "seen": ["circuit"], "shifted": ["circuit", "shift"],
        "shows_shifted": ["circuit", "shift", "value"], "parts": ["circuit", "knob"], "hangs": ["circuit", "word"],
    },
    "layers": {
        "turned": ["circuit"], "layers": ["circuit"], "shows_layers": ["circuit", "value"], "packed": ["circuit", "most"],
        "shows_packed": ["circuit", "most", "value"], "laid": ["circuit", "rows"], "plain": ["circuit"],
    },
    "keeping": {"kept": ["circuit"], "bound": ["circuit"]},
    "starts": {
        "mean": ["circuit", "start", "word"], "alike_from": ["one", "other", "start"],
        "shows_alike_from": ["one", "other", "start", "value"], "hidden_from": ["circuit", "start"],
        "hangs_from": ["circuit", "start", "word"],
    },
    "tables": {"table_of": ["circuit"], "gates": ["table"], "shows_gates": ["table", "value"], "behind": ["one", "other"]},
    "telling": {"left": ["suspects", "looks"], "look": ["suspects", "looks"], "shows_look": ["suspects", "looks", "value"]},
    "choosing": {"cheapest": ["circuit", "offers", "wishes"]},
    "journals": {"journal": ["bench"], "read_journal": ["text"]},
}

OBJECTS = (
    (Ratio(2, 4), ("number", "under", "text")),
    (Word("-X"), ("text", "letters", "sign")),
    (Wave(()), ("terms", "knobs")),
    (Circuit("wires 1"), ("text", "wires", "knobs", "turns", "still")),
    (spread(Circuit("wires 1"), Word("X")), ("terms", "knobs")),
    (Start((Word("X"),)), ("words", "wires")),
    (Table((Word("X"), Word("Z"))), ("images", "wires")),
    (Bench(Circuit("wires 1"), Start((Word("X"),))), ("first", "circuit", "start", "setting", "done")),
    (Desk("wires 1\nstart X\ndeeds"), ("bench",)),
)


def body_of(module):
    return ast.parse((ROOT / "looseknobs" / (module + ".py")).read_text()).body


def parameters(told):
    return list(inspect.signature(told).parameters)


class InterfaceTest(unittest.TestCase):
    def test_classes_and_methods_are_defined_in_their_files(self):
        for module, classes in CLASSES.items():
            found = {node.name: node for node in body_of(module) if isinstance(node, ast.ClassDef)}
            for name, methods in classes.items():
                self.assertIn(name, found)
                made = getattr(importlib.import_module("looseknobs." + module), name)
                own = [node.name for node in found[name].body if isinstance(node, ast.FunctionDef)]
                for method, names in methods.items():
                    self.assertIn(method, own)
                    self.assertEqual([one for one in parameters(getattr(made, method)) if one != "self"], names)
                if name in MADE:
                    self.assertEqual(parameters(made), MADE[name])

    def test_functions_are_defined_in_their_files(self):
        for module, functions in FUNCTIONS.items():
            found = [node.name for node in body_of(module) if isinstance(node, ast.FunctionDef)]
            for name, names in functions.items():
                self.assertIn(name, found)
                self.assertEqual(parameters(getattr(importlib.import_module("looseknobs." + module), name)), names)

    def test_attributes(self):
        for made, names in OBJECTS:
            for name in names:
                self.assertTrue(hasattr(made, name))
                self.assertFalse(callable(getattr(made, name)))


if __name__ == "__main__":
    unittest.main()
