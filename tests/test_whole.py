"""Over the whole package: arguments by position and by name, and equal calls; sections 2 and 17."""

import inspect
import unittest

import test_interface
from looseknobs import choosing, journals, keeping, layers, likeness, seeing, spreads, starts, tables, telling
from looseknobs.benches import Bench
from looseknobs.circuits import Circuit
from looseknobs.desk import Desk
from looseknobs.ratios import Ratio
from looseknobs.starts import Start
from looseknobs.tables import Table
from looseknobs.waves import Wave
from looseknobs.words import Word

ONE = Circuit("wires 2\nturn XI by 1 k 2 m\nh 0\nturn ZZ by 3 m\ncx 0 1")
OTHER = Circuit("wires 2\nh 0\nturn XI by 1 k\nturn ZZ by 3 n\nflip ZI")
NOUGHT = Start((Word("ZI"), Word("IZ")))
ZZ = Word("ZZ")
BELL = tables.table_of(Circuit("wires 2\nh 0\ncx 0 1"))
SETTING = (("k", Ratio(3, 5), Ratio(4, 5)), ("m", 0, 1), ("n", 1, 0))
SUSPECTS = (ONE, OTHER, ~ONE)
LOOKS = ((SETTING, NOUGHT, Word("XX"), 0),)
OFFERS = ((0, "h 1", 2), (2, "cz 0 1", 1))
TEXT = "wires 1\nturn X by 1 k\nstart Z\ndeeds\nput 1 h 0"

CALLS = (
    (spreads.spread, (ONE, ZZ)), (likeness.same, (ONE, OTHER)), (likeness.shows_same, (ONE, OTHER, ("apart", SETTING, ZZ))),
    (seeing.hidden, (ONE,)), (seeing.seen, (ONE,)), (seeing.shifted, (ONE, (1, -2))), (seeing.shows_shifted, (ONE, (1, -2), ("hidden",))),
    (seeing.parts, (ONE, "m")), (seeing.hangs, (ONE, ZZ)), (layers.turned, (ONE,)), (layers.layers, (ONE,)),
    (layers.shows_layers, (ONE, (((0,), (1,)), (0, 1)))), (layers.packed, (ONE, 1)), (layers.shows_packed, (ONE, 1, (2, ((0,), (1,))))),
    (layers.laid, (ONE, ((0,), (1,)))), (layers.plain, (ONE,)), (keeping.kept, (ONE,)), (keeping.bound, (ONE,)),
    (starts.mean, (ONE, NOUGHT, ZZ)), (starts.alike_from, (ONE, OTHER, NOUGHT)),
    (starts.shows_alike_from, (ONE, OTHER, NOUGHT, ("apart", SETTING, ZZ))), (starts.hidden_from, (ONE, NOUGHT)),
    (starts.hangs_from, (ONE, NOUGHT, ZZ)), (tables.table_of, (ONE,)), (tables.gates, (BELL,)), (tables.shows_gates, (BELL, ONE)),
    (tables.behind, (ONE, OTHER)), (telling.left, (SUSPECTS, LOOKS)), (telling.look, (SUSPECTS, ())),
    (telling.shows_look, (SUSPECTS, (), (SETTING, NOUGHT, ZZ))), (choosing.cheapest, (ONE, OFFERS, (("kept", ZZ), ("layers", 1)))),
    (journals.journal, (Bench(ONE, NOUGHT),)), (journals.read_journal, (TEXT,)),
    (Ratio, (4, 6)), (Ratio.of, ("-2/3",)), (Ratio(3).divided, (2,)), (Word, ("-XY",)), (Word("XX").bent, (Word("ZI"),)),
    (Word("XX").passes, (ZZ,)), (Wave, ((((("k", 1),), 1, 0),),)), (Circuit, ("wires 1\nh 0",)), (ONE.put, (1, "h 1")), (ONE.without, (2,)),
    (spreads.spread(ONE, ZZ).part, ("ZZ",)), (spreads.spread(ONE, ZZ).at, (SETTING,)), (starts.mean(ONE, NOUGHT, ZZ).at, (SETTING,)),
    (starts.mean(ONE, NOUGHT, ZZ).put, (SETTING,)), (starts.mean(ONE, NOUGHT, ZZ).slope, ("k",)), (Start, ((ZZ, Word("-XX")),)),
    (NOUGHT.sign_of, (ZZ,)), (NOUGHT.like, (NOUGHT,)), (Table, ((Word("X"), Word("Y")),)), (BELL.back, (ZZ,)), (Bench, (ONE, NOUGHT)),
)


def made_bench():
    bench = Bench(ONE, NOUGHT)
    bench.fix("k", 0, 1)
    bench.put(4, "flip ZI")
    bench.put(4, "flip XX")
    bench.undo()
    return bench


DEEDS = (
    ("put", (0, "h 0")), ("drop", (1,)), ("exchange", (3,)), ("fix", ("m", Ratio(3, 5), Ratio(4, 5))), ("loosen", ("k",)),
    ("mean", (ZZ,)), ("undo", ()), ("redo", ()), ("copy", ()), ("tried", (lambda bench: bench.undo(),)),
)


class WholeTest(unittest.TestCase):
    def test_functions(self):
        for act, handed in CALLS:
            names = list(inspect.signature(act).parameters)[: len(handed)]
            told = act(*handed)
            self.assertEqual(act(**dict(zip(names, handed))), told, act)
            self.assertEqual(act(**dict(zip(names[::-1], handed[::-1]))), told, act)
            self.assertEqual(act(*handed), told, act)

    def test_each_function_of_the_interface_is_called(self):
        called = {act.__name__ for act, handed in CALLS}
        for functions in test_interface.FUNCTIONS.values():
            self.assertLessEqual(set(functions), called)

    def test_benches(self):
        for name, handed in DEEDS:
            one, other, third = made_bench(), made_bench(), made_bench()
            names = list(inspect.signature(getattr(one, name)).parameters)[: len(handed)]
            told = getattr(one, name)(*handed)
            self.assertEqual(getattr(other, name)(**dict(zip(names, handed))), told)
            self.assertEqual(getattr(third, name)(*handed), told)
            self.assertEqual([one, one.circuit, one.setting], [other, other.circuit, other.setting])
            self.assertEqual(one, third)
            if name not in ("mean", "copy"):
                self.assertIsNone(told)
        bench = made_bench()
        bench.fix("m", 1, 0)
        self.assertEqual(bench.read(word=ZZ), bench.read(ZZ))
        self.assertIsNone(bench.tried(look=lambda held: held.drop(0), keep=True))
        self.assertEqual(len(bench), 4)

    def test_desk(self):
        self.assertEqual(Desk(text=TEXT).bench, Desk(TEXT).bench)
        self.assertEqual(Desk(TEXT).say(line="knobs"), Desk(TEXT).say("knobs"))

    def test_what_is_handed_in_stays_as_it_was(self):
        texts = [circuit.text for circuit in SUSPECTS]
        for act, handed in CALLS:
            act(*handed)
        self.assertEqual([circuit.text for circuit in SUSPECTS], texts)
        self.assertEqual(NOUGHT, Start((Word("ZI"), Word("IZ"))))
        self.assertEqual([NOUGHT.sign_of(ZZ), NOUGHT.sign_of(Word("XX"))], [1, 0])
        self.assertEqual(BELL, tables.table_of(Circuit("wires 2\nh 0\ncx 0 1")))


if __name__ == "__main__":
    unittest.main()
