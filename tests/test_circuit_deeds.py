"""Circuits behind one another, contrary ones, lines put in and left out: section 7."""

import operator
import unittest

import helper
from helper import RIGHT, WRONG, refused, refused_about
from looseknobs.circuits import Circuit
from looseknobs.errors import BadLine, BadPlace, Long, Many, NoLine, OtherSize
from looseknobs.ratios import Ratio
from looseknobs.waves import Wave
from looseknobs.words import Word

TURN = "turn X by 1 k"
DRAWN = helper.some_circuits(73, 40, turns=3, fixed=10)


def one_wire(*lines):
    return Circuit("\n".join(["wires 1"] + list(lines)))


FORTY = one_wire(*["h 0"] * 40)
SIX = one_wire(*[TURN] * 6)
FULL = one_wire(*[TURN] * 6 + ["h 0"] * 34)


class ProductTest(unittest.TestCase):
    def test_the_lines_of_one_then_those_of_other(self):
        for one in DRAWN:
            for other in DRAWN:
                if one.wires == other.wires:
                    made = one * other
                    self.assertIsInstance(made, Circuit)
                    self.assertEqual(made.text, "\n".join([one.text] + other.text.split("\n")[1:]))

    def test_other_sizes(self):
        for one in DRAWN:
            for other in DRAWN:
                if one.wires != other.wires:
                    refused(self, OtherSize, other, operator.mul, one, other)

    def test_too_long_or_too_many(self):
        self.assertEqual(len(one_wire(*["h 0"] * 39) * one_wire("h 0")), 40)
        self.assertEqual(len((SIX * one_wire(*["h 0"] * 34)).turns), 6)
        self.assertEqual(len((one_wire(*[TURN] * 3) * one_wire(*[TURN] * 3)).turns), 6)
        for one, other in ((FORTY, one_wire("h 0")), (one_wire("h 0"), FORTY), (FORTY, FORTY), (FULL, one_wire("h 0"))):
            refused_about(self, Long, 40, operator.mul, one, other)
        for one, other in ((SIX, one_wire(TURN)), (one_wire(TURN), SIX), (SIX, SIX), (one_wire(*[TURN] * 4), one_wire(*[TURN] * 3))):
            refused_about(self, Many, 6, operator.mul, one, other)

    def test_which_error_comes_first(self):
        refused_about(self, Long, 40, operator.mul, FULL, SIX)
        refused_about(self, Long, 40, operator.mul, FULL, one_wire(TURN))
        two = Circuit("\n".join(["wires 2"] + ["turn XX by 1 k"] * 6 + ["h 0"] * 34))
        refused(self, OtherSize, two, operator.mul, FULL, two)

    def test_refused_operands(self):
        circuit = one_wire("h 0")
        for wrong in helper.any_values() + [1.0, "wires 1", Ratio(1, 2), Wave(()), Word("X")]:
            if not isinstance(wrong, Circuit):
                for act in (operator.mul, operator.add, operator.sub, operator.lt):
                    with self.subTest(act=act.__name__, wrong=wrong):
                        with self.assertRaises(TypeError):
                            act(circuit, wrong)
                        with self.assertRaises(TypeError):
                            act(wrong, circuit)
        for act in (operator.add, operator.sub, operator.lt, operator.ge):
            with self.assertRaises(TypeError):
                act(circuit, circuit)
        with self.assertRaises(TypeError):
            -circuit


class ContraryTest(unittest.TestCase):
    def test_each_form(self):
        lines = ["flip XI", "flip -ZZ", "quarter XY", "quarter -XY", "h 1", "cz 0 1", "cx 1 0", "swap 0 1",
                 "turn IZ by 1 k -2 a", "turn -IZ by 4 quarter"]
        contrary = ["flip XI", "flip -ZZ", "quarter -XY", "quarter XY", "h 1", "cz 0 1", "cx 1 0", "swap 0 1",
                    "turn -IZ by 1 k -2 a", "turn IZ by 4 quarter"]
        circuit = Circuit("\n".join(["wires 2"] + lines))
        self.assertEqual((~circuit).text, "\n".join(["wires 2"] + contrary[::-1]))
        for line, other in zip(lines, contrary):
            self.assertEqual((~Circuit("wires 2\n" + line))[0], other)

    def test_twice(self):
        for circuit in DRAWN + [FULL, FORTY, Circuit(helper.large_text(9)), Circuit("wires 3")]:
            self.assertIsInstance(~circuit, Circuit)
            self.assertEqual(~~circuit, circuit)
            self.assertEqual(len(~circuit), len(circuit))
            self.assertEqual((~circuit).knobs, circuit.knobs)

    def test_of_products(self):
        for one in DRAWN[:16]:
            for other in DRAWN[:16]:
                if one.wires == other.wires:
                    self.assertEqual(~(one * other), ~other * ~one)


class PutTest(unittest.TestCase):
    def test_at_each_place(self):
        for circuit in DRAWN:
            line = f"flip {'X' * circuit.wires}"
            lines = circuit.text.split("\n")
            for place in range(len(circuit) + 1):
                made = circuit.put(place, line)
                self.assertIsInstance(made, Circuit)
                self.assertEqual(made.text, "\n".join(lines[: place + 1] + [line] + lines[place + 1 :]))
                self.assertEqual(made.without(place), circuit)

    def test_each_form(self):
        circuit = Circuit("wires 2\nh 0\nh 1")
        for line in RIGHT:
            self.assertEqual(circuit.put(1, line).text, f"wires 2\nh 0\n{line}\nh 1")

    def test_no_places(self):
        circuit = Circuit("wires 2\nh 0\nh 1")
        for wrong in [-1, 3, 4, 10 ** 399] + [value for value in helper.any_values() if type(value) is not int]:
            for line in ("h 0", "no line", None):
                with self.subTest(wrong=wrong):
                    refused(self, BadPlace, wrong, circuit.put, wrong, line)
        refused(self, BadPlace, 1, Circuit("wires 1").put, 1, "h 0")

    def test_no_lines(self):
        circuit = Circuit("wires 2\nh 0\nh 1")
        for wrong in WRONG + helper.any_values() + ["h 0\nh 1", "h 0\n", "\nh 0", ["h 0"], ("h 0",), Circuit("wires 2\nh 0")]:
            with self.subTest(wrong=wrong):
                refused(self, BadLine, wrong, circuit.put, 1, wrong)
        refused(self, BadLine, "h 1", Circuit("wires 1").put, 0, "h 1")
        refused(self, BadLine, "flip X", Circuit("wires 2").put, 0, "flip X")

    def test_too_long_or_too_many(self):
        refused_about(self, Long, 40, FORTY.put, 0, "h 0")
        refused_about(self, Long, 40, FORTY.put, 40, TURN)
        refused_about(self, Long, 40, FULL.put, 3, TURN)
        refused_about(self, Long, 40, FULL.put, 3, "flip X")
        refused_about(self, Many, 6, SIX.put, 6, TURN)
        self.assertEqual(len(SIX.put(6, "h 0")), 7)
        self.assertEqual(len(FULL.without(39).put(0, "h 0")), 40)

    def test_which_error_comes_first(self):
        refused(self, BadPlace, 41, FULL.put, 41, "no line")
        refused(self, BadLine, "no line", FULL.put, 40, "no line")
        refused_about(self, Long, 40, FULL.put, 40, TURN)
        refused_about(self, Many, 6, FULL.without(39).put, 0, TURN)

    def test_by_name(self):
        self.assertEqual(one_wire("h 0").put(line="flip X", place=1).text, "wires 1\nh 0\nflip X")


class WithoutTest(unittest.TestCase):
    def test_each_line(self):
        for circuit in DRAWN:
            lines = circuit.text.split("\n")
            for number in range(len(circuit)):
                made = circuit.without(number)
                self.assertIsInstance(made, Circuit)
                self.assertEqual(made.text, "\n".join(lines[: number + 1] + lines[number + 2 :]))

    def test_no_such_line(self):
        for wrong in (2, -1, 3):
            refused(self, NoLine, wrong, one_wire("h 0", TURN).without, wrong)
        refused(self, NoLine, 0, one_wire().without, 0)
        for wrong in (True, False, "0", None, (0,), [0], Ratio(0)):
            refused(self, NoLine, wrong, one_wire("h 0", TURN).without, wrong)

    def test_by_name(self):
        self.assertEqual(one_wire("h 0", TURN).without(number=0), one_wire(TURN))


class UnchangedTest(unittest.TestCase):
    def test_the_circuit_stays_as_it_was(self):
        for circuit in DRAWN:
            told = (circuit.text, circuit.wires, circuit.knobs, circuit.turns, len(circuit))
            circuit * circuit.still, ~circuit, circuit.still
            circuit.put(0, f"h {circuit.wires - 1}")
            for act in (lambda: circuit.put(99, "h 0"), lambda: circuit.put(0, "no"), lambda: circuit.without(99)):
                with self.assertRaises(ValueError):
                    act()
            if len(circuit):
                circuit.without(0)
            self.assertEqual((circuit.text, circuit.wires, circuit.knobs, circuit.turns, len(circuit)), told)


if __name__ == "__main__":
    unittest.main()
