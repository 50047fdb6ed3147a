"""The text of a circuit and what is listed of it: section 7."""

import itertools
import unittest

import helper
from helper import RIGHT, WRONG, refused, refused_about
from looseknobs.circuits import Circuit
from looseknobs.errors import BadCircuit, NoLine
from looseknobs.ratios import Ratio
from looseknobs.words import Word

class TextTest(unittest.TestCase):
    def test_wires(self):
        for wires in (1, 2, 3, 4):
            circuit = Circuit(f"wires {wires}")
            self.assertEqual((circuit.text, circuit.wires, circuit.knobs, circuit.turns), (f"wires {wires}", wires, (), ()))
            self.assertIs(type(circuit.wires), int)
            self.assertEqual(len(circuit), 0)
            self.assertEqual(circuit.still, circuit)

    def test_first_lines_that_cannot_stand(self):
        for first in (
            "", " ", "wires", "wires ", "wires 0", "wires 5", "wires 01", "wires -1", "wires +1", "wires 1 ", " wires 1",
            "wires  1", "wires 1 1", "wires one", "wires 10", "wire 1", "Wires 1", "wires 1.", "h 0", "1", "wires1", "wires 2,",
        ):
            for rest in ("", "\nh 0", "\n", "\nno line"):
                with self.subTest(text=first + rest):
                    refused_about(self, BadCircuit, 1, Circuit, first + rest)

    def test_what_is_no_string(self):
        for value in helper.any_values():
            if not isinstance(value, str):
                refused_about(self, BadCircuit, 0, Circuit, value)
        refused_about(self, BadCircuit, 0, Circuit, b"wires 1")
        refused_about(self, BadCircuit, 0, Circuit, ["wires 1", "h 0"])

    def test_each_form(self):
        for line in RIGHT:
            with self.subTest(line=line):
                circuit = Circuit("wires 2\n" + line)
                self.assertEqual((len(circuit), circuit[0]), (1, line))
                self.assertEqual(circuit.turns, (0,) if line.startswith("turn") else ())

    def test_each_way_in_which_a_line_cannot_stand(self):
        for line in WRONG:
            with self.subTest(line=line):
                refused_about(self, BadCircuit, 2, Circuit, "wires 2\n" + line)
                refused_about(self, BadCircuit, 4, Circuit, f"wires 2\nh 0\ncx 0 1\n{line}\nno line")

    def test_all_words_of_lines(self):
        for wires in (1, 2, 3):
            for size in (1, 2, 3, 4):
                for letters in helper.all_letters(size):
                    for sign in ("", "-"):
                        for line in (f"flip {sign}{letters}", f"quarter {sign}{letters}", f"turn {sign}{letters} by 1 k"):
                            text = f"wires {wires}\n{line}"
                            if size == wires and letters.strip("I"):
                                self.assertEqual(Circuit(text)[0], line)
                            else:
                                refused_about(self, BadCircuit, 2, Circuit, text)

    def test_wires_at_their_bounds(self):
        for wires in (1, 2, 3, 4):
            for a, b in itertools.product(range(-1, 6), repeat=2):
                if 0 <= a < wires:
                    self.assertEqual(Circuit(f"wires {wires}\nh {a}")[0], f"h {a}")
                else:
                    refused_about(self, BadCircuit, 2, Circuit, f"wires {wires}\nh {a}")
                for kind in ("cx", "cz", "swap"):
                    text = f"wires {wires}\n{kind} {a} {b}"
                    if 0 <= a < wires and 0 <= b < wires and a != b:
                        self.assertEqual(Circuit(text).text, text)
                    else:
                        refused_about(self, BadCircuit, 2, Circuit, text)

    def test_line_feeds(self):
        refused_about(self, BadCircuit, 2, Circuit, "wires 1\n")
        refused_about(self, BadCircuit, 3, Circuit, "wires 1\nh 0\n")
        refused_about(self, BadCircuit, 2, Circuit, "wires 1\n\nh 0")
        refused_about(self, BadCircuit, 1, Circuit, "\nwires 1")
        refused_about(self, BadCircuit, 1, Circuit, "\n")
        refused_about(self, BadCircuit, 1, Circuit, "")

    def test_many_lines(self):
        for many in (0, 1, 39, 40):
            self.assertEqual(len(Circuit("\n".join(["wires 1"] + ["h 0"] * many))), many)
        for many in (41, 42, 60):
            refused_about(self, BadCircuit, 42, Circuit, "\n".join(["wires 1"] + ["h 0"] * many))
        refused_about(self, BadCircuit, 41, Circuit, "\n".join(["wires 1"] + ["h 0"] * 39 + ["no line", "h 0"]))
        refused_about(self, BadCircuit, 42, Circuit, "\n".join(["wires 1"] + ["h 0"] * 40 + [""]))

    def test_many_turns(self):
        turn = "turn X by 1 k"
        for many in range(7):
            self.assertEqual(len(Circuit("\n".join(["wires 1"] + [turn] * many)).turns), many)
        refused_about(self, BadCircuit, 8, Circuit, "\n".join(["wires 1"] + [turn] * 7))
        refused_about(self, BadCircuit, 10, Circuit, "\n".join(["wires 1", "h 0"] + [turn] * 6 + ["h 0", turn, "no line"]))
        refused_about(self, BadCircuit, 8, Circuit, "\n".join(["wires 1"] + [turn] * 6 + ["no line", turn]))
        self.assertEqual(len(Circuit("\n".join(["wires 1"] + [turn] * 6 + ["h 0"] * 34))), 40)
        refused_about(self, BadCircuit, 42, Circuit, "\n".join(["wires 1"] + [turn] * 6 + ["h 0"] * 34 + [turn]))

    def test_the_largest_circuit(self):
        text = helper.large_text(3)
        circuit = Circuit(text)
        self.assertEqual((circuit.text, len(circuit), len(circuit.turns), len(circuit.knobs)), (text, 40, 6, 18))

    def test_by_name(self):
        self.assertEqual(Circuit(text="wires 1\nh 0").text, "wires 1\nh 0")


class PropertiesTest(unittest.TestCase):
    def test_of_drawn_circuits(self):
        for circuit in helper.some_circuits(71, 60, turns=6, knobs=("a", "b", "cc", "by", "turn")):
            lines = circuit.text.split("\n")[1:]
            self.assertEqual(len(circuit), len(lines))
            turns = tuple(number for number, line in enumerate(lines) if line.startswith("turn "))
            self.assertEqual(circuit.turns, turns)
            knobs = {knob for number in turns for knob, many in helper.form_of(lines[number])}
            self.assertEqual(circuit.knobs, tuple(sorted(knobs)))
            still = [f"wires {circuit.wires}"] + [line for line in lines if not line.startswith("turn ")]
            self.assertIsInstance(circuit.still, Circuit)
            self.assertEqual(circuit.still.text, "\n".join(still))
            self.assertEqual([circuit[number] for number in range(len(lines))], lines)

    def test_knobs_ascend_without_duplicates(self):
        circuit = Circuit("wires 1\nturn X by 1 z 1 b 1 ab\nturn Z by 2 b -1 a\nturn Y by 1 abc")
        self.assertEqual(circuit.knobs, ("a", "ab", "abc", "b", "z"))

    def test_no_such_number(self):
        empty, circuit = Circuit("wires 1"), Circuit("wires 1\nh 0\nturn X by 1 k\nflip Z")
        for wrong in (3, 4, -1, -3, 10 ** 399, -(10 ** 399)):
            refused(self, NoLine, wrong, lambda: circuit[wrong])
        for wrong in helper.any_values():
            if type(wrong) is not int:
                refused(self, NoLine, wrong, lambda: circuit[wrong])
                refused(self, NoLine, wrong, circuit.without, wrong)
        for wrong in (True, False, "0", 1.0, Ratio(1), Word("X"), slice(0, 1)):
            refused(self, NoLine, wrong, lambda: circuit[wrong])
        for wrong in (0, -1, 1):
            refused(self, NoLine, wrong, lambda: empty[wrong])


class EqualityTest(unittest.TestCase):
    def test_by_texts(self):
        texts = [circuit.text for circuit in helper.some_circuits(72, 30)]
        for one in texts:
            for other in texts:
                self.assertIs(Circuit(one) == Circuit(other), one == other)
                self.assertIs(Circuit(one) != Circuit(other), one != other)
        self.assertNotEqual(Circuit("wires 2\nturn XX by 1 a 1 b"), Circuit("wires 2\nturn XX by 1 b 1 a"))
        self.assertNotEqual(Circuit("wires 2\nh 0\nh 1"), Circuit("wires 2\nh 1\nh 0"))

    def test_nothing_else(self):
        circuit = Circuit("wires 2\nh 0")
        for other in helper.any_values() + [circuit.text, ("wires 2", "h 0")]:
            if not isinstance(other, Circuit):
                self.assertIs(circuit == other, False)
                self.assertIs(other == circuit, False)
                self.assertIs(circuit != other, True)


if __name__ == "__main__":
    unittest.main()
