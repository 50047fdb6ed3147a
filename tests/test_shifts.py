"""Shifts that hide and such as are seen: section 10."""

import random
import unittest
from fractions import Fraction

import helper
from helper import refused
from looseknobs.circuits import Circuit
from looseknobs.errors import BadShift
from looseknobs.ratios import Ratio
from looseknobs.seeing import hidden, shifted, shows_shifted
from looseknobs.words import Word

HIDDEN = ("hidden",)
TWICE = Circuit("wires 2\nturn ZI by 1 k\nturn IZ by 2 n\nturn ZI by 1 m\nturn ZI by -2 n")
CHAIN = Circuit("wires 4\nturn ZIII by 4 a -1 b\nturn IZII by 4 b -1 c\nturn IIZI by 4 c -1 d\nturn IIIZ by 4 d -1 e")


def turned_on(circuit, angles, shift, angle):
    return {
        knob: helper.added(angles[knob], helper.many_times(angle, many)) for knob, many in zip(circuit.knobs, shift)
    }


class ShiftsTest(unittest.TestCase):
    def is_seen(self, circuit, shift, told):
        """What is told to be seen is seen, by a going of the test's own."""
        self.assertIs(type(told), tuple)
        self.assertEqual(len(told), 5, (circuit.text, shift, told))
        name, setting, c, s, word = told
        self.assertEqual(name, "seen")
        self.assertEqual(tuple(row[0] for row in setting), circuit.knobs)
        for number in [c, s] + [number for row in setting for number in row[1:]]:
            self.assertIsInstance(number, Ratio)
        for cosine, sine in [(c, s)] + [row[1:] for row in setting]:
            self.assertEqual(cosine * cosine + sine * sine, Ratio(1))
        self.assertIsInstance(word, Word)
        self.assertEqual(len(word), circuit.wires)
        ahead = helper.angles_of(setting)
        behind = turned_on(circuit, ahead, shift, (helper.fraction(c), helper.fraction(s)))
        self.assertNotEqual(helper.back(circuit.text, word.text, ahead), helper.back(circuit.text, word.text, behind))
        self.assertIs(shows_shifted(circuit, shift, told), True)
        self.assertIs(shows_shifted(circuit, shift, HIDDEN), False)

    def hides(self, circuit, shift):
        self.assertEqual(shifted(circuit, shift), HIDDEN)
        self.assertIs(shows_shifted(circuit, shift, HIDDEN), True)

    def test_sums_of_rows_hide_and_others_are_seen(self):
        rng = random.Random(111)
        seen = {True: 0, False: 0}
        for circuit in helper.some_circuits(111, 100, turns=5):
            rows = hidden(circuit)
            for _ in range(4):
                times = [rng.randint(-2, 2) for _ in rows]
                shift = tuple(sum(n * row[at] for n, row in zip(times, rows)) for at in range(len(circuit.knobs)))
                if all(abs(n) <= 99 for n in shift):
                    self.hides(circuit, shift)
                shift = tuple(rng.randint(-9, 9) for _ in circuit.knobs)
                told = shifted(circuit, shift)
                seen[told == HIDDEN] += 1
                if told == HIDDEN:
                    self.hides(circuit, shift)
                    angles = helper.some_angles(rng, circuit.knobs)
                    later = turned_on(circuit, angles, shift, (Fraction(5, 13), Fraction(12, 13)))
                    for word in helper.first_words(circuit.wires):
                        self.assertEqual(helper.back(circuit.text, word, angles), helper.back(circuit.text, word, later))
                else:
                    self.is_seen(circuit, shift, told)
        self.assertGreater(seen[True], 40)
        self.assertGreater(seen[False], 150)

    def test_seen_at_no_quarter(self):
        # All that goes round here does so by whole rounds if the angle is a quarter.
        for shift in ((4, 0, 0), (2, 2, 0), (0, 0, 2), (8, 8, 4), (3, 1, 2), (96, -96, 98)):
            self.is_seen(TWICE, shift, shifted(TWICE, shift))
        circuit = Circuit("wires 1\nturn X by 4 k")
        for shift in ((1,), (2,), (-3,), (99,), (-99,)):
            self.is_seen(circuit, shift, shifted(circuit, shift))

    def test_seen_only_where_another_knob_is_at_no_quarter(self):
        for lines in (
            ["turn X by 1 a", "turn Z by 4 b", "turn X by -1 a"],
            ["turn X by 4 a", "turn Z by 4 b", "turn X by -4 a"],
            ["turn X by 4 a 4 b", "turn Z by 4 b -4 c", "turn X by -4 a -4 b"],
            ["turn X by 2 a", "turn Z by 4 b", "turn X by -2 a", "turn Y by 4 c", "turn X by 2 a", "turn Z by -4 b"],
        ):
            circuit = Circuit("\n".join(["wires 1"] + lines))
            many = len(circuit.knobs)
            for at in range(many):
                for times in (1, -1, 2, 3, 4, 12, 99):
                    shift = tuple(times * int(at == place) for place in range(many))
                    self.is_seen(circuit, shift, shifted(circuit, shift))
            self.is_seen(circuit, (1,) * many, shifted(circuit, (1,) * many))

    def test_bounds(self):
        self.assertEqual(shifted(Circuit("wires 1"), ()), HIDDEN)
        self.assertEqual(shifted(Circuit("wires 1\nturn X by 1 a\nturn X by -1 a"), (99,)), HIDDEN)
        self.hides(TWICE, (0, 0, 0))
        self.hides(TWICE, (99, -99, 0))
        self.is_seen(TWICE, (-99, 98, 0), shifted(TWICE, (-99, 98, 0)))
        self.is_seen(TWICE, (99, 99, -99), shifted(TWICE, (99, 99, -99)))

    def test_rows_of_hidden_beyond_99(self):
        (row,) = hidden(CHAIN)
        self.assertEqual(row, (1, 4, 16, 64, 256))
        self.hides(CHAIN, row)
        for wrong in ((2, 8, 32, 128, 512), (-1, -4, -16, -64, -256), (1, 4, 16, 64, 255), (0, 0, 0, 0, 100), (1, 4, 16, 64, 257)):
            refused(self, BadShift, wrong, shifted, CHAIN, wrong)
            refused(self, BadShift, wrong, shows_shifted, CHAIN, wrong, HIDDEN)
        for value in (("seen", tuple((knob, 1, 0) for knob in "abcde"), 0, 1, Word("XXXX")), ("seen",), None):
            self.assertIs(shows_shifted(CHAIN, row, value), False)
        self.is_seen(CHAIN, (1, 4, 16, 64, 99), shifted(CHAIN, (1, 4, 16, 64, 99)))

    def test_no_numbers_show_a_shift_that_hides(self):
        lines = [f"turn {'IIII'[:at] + 'Z' + 'III'[at:]} by 4 {a} -1 {b}" for at, (a, b) in enumerate(("ab", "bc", "cd", "de"))]
        circuit = Circuit("\n".join(["wires 4"] + lines + ["turn ZZII by 4 e -1 f", "turn ZIIZ by 4 f -1 g"]))
        (row,) = hidden(circuit)
        n = 10 ** 60 + 1
        c, s = Ratio(1 - n * n, 1 + n * n), Ratio(2 * n, 1 + n * n)
        value = ("seen", tuple((knob, c, s) for knob in "abcdefg"), c, s, Word("XXXX"))
        self.assertIs(shows_shifted(circuit, row, value), False)

    def test_the_largest_circuits(self):
        rng = random.Random(112)
        for seed in range(3):
            circuit = Circuit(helper.large_text(seed + 30))
            shift = tuple(4 * rng.randint(-24, 24) for _ in circuit.knobs)
            self.is_seen(circuit, shift, shifted(circuit, shift))
            for row in hidden(circuit)[:3]:
                self.hides(circuit, row)


class ShownTest(unittest.TestCase):
    setting = (("k", Ratio(3, 5), Ratio(4, 5)), ("m", 0, 1), ("n", -1, 0))

    def shown(self, value, shift=(1, 0, 0)):
        got = shows_shifted(TWICE, shift, value)
        self.assertIs(type(got), bool)
        return got

    def test_settings_angles_and_words(self):
        ahead = helper.angles_of(self.setting)
        for shift in ((1, 0, 0), (1, -1, 0), (0, 0, 1), (2, 2, 1), (4, 0, 0), (0, 0, 2)):
            for c, s in ((0, 1), (1, 0), (-1, 0), (Ratio(3, 5), Ratio(-4, 5)), (Ratio(0), 1)):
                behind = turned_on(TWICE, ahead, shift, (helper.fraction(c), helper.fraction(s)))
                for text in ("XI", "-IX", "XX", "ZZ", "II", "YI"):
                    wanted = helper.back(TWICE.text, text, ahead) != helper.back(TWICE.text, text, behind)
                    self.assertIs(self.shown(("seen", self.setting, c, s, Word(text)), shift), wanted)

    def test_wrong_values(self):
        right = ("seen", self.setting, 0, 1, Word("XI"))
        self.assertTrue(self.shown(right))
        k, m, n = self.setting
        for setting in (
            (), (k, m), (k, m, n, ("z", 1, 0)), (m, k, n), [k, m, n], (k, m, ("o", 1, 0)), (k, m, ("n", 1, 1)), None, "k",
            (("a", 1, 0), k, m, n), (k, list(m), n), (k, m, ("n", True, 0)),
        ):
            self.assertFalse(self.shown(("seen", setting) + right[2:]))
        for c, s in ((1, 1), (0, 0), (True, 0), (0, True), ("0", "1"), (None, 1), (0, 1.0), (2, 0), (Ratio(3, 5), Ratio(3, 5)), ((0,), (1,))):
            self.assertFalse(self.shown(("seen", self.setting, c, s, Word("XI"))))
        for word in ("XI", Word("X"), Word("XII"), None, ["X"], Circuit("wires 2")):
            self.assertFalse(self.shown(right[:4] + (word,)))
        for value in helper.any_values() + [
            list(right), right[:4], right + (1,), ("hidden", 1), ["hidden"], ("Hidden",), (True,) + right[1:], ("hidden",) + right[1:],
            "seen", ("seen",), HIDDEN, (["seen"],) + right[1:],
        ]:
            self.assertFalse(self.shown(value))

    def test_of_a_shift_that_hides(self):
        for value in helper.any_values() + [("seen", self.setting, 0, 1, Word("XI")), ["hidden"], ("hidden", "hidden")]:
            self.assertFalse(self.shown(value, (1, -1, 0)))
        self.assertTrue(self.shown(HIDDEN, (1, -1, 0)))

    def test_no_shifts(self):
        for wrong in helper.any_values() + [
            (1, 0), (1, 0, 0, 0), [1, 0, 0], (True, 0, 0), (1, -1, False), (1, -1, None), (1, "0", 0), (1.0, 0, 0), (Ratio(1), 0, 0),
            (100, 0, 0), (0, -100, 0), (0, 0, 10 ** 399), ((1, -1, 0),), (1, (0,), 0), (1, [0], 0), "k", {"k": 1}, (100, -100, 0),
        ]:
            with self.subTest(wrong=wrong):
                refused(self, BadShift, wrong, shifted, TWICE, wrong)
                for value in (HIDDEN, None, ("seen", self.setting, 0, 1, Word("XI"))):
                    refused(self, BadShift, wrong, shows_shifted, TWICE, wrong, value)
        for wrong in ([], (0,), None, {}):
            refused(self, BadShift, wrong, shifted, Circuit("wires 1"), wrong)

    def test_names_and_equal_calls(self):
        told = shifted(shift=(1, 0, 0), circuit=TWICE)
        self.assertEqual(told, shifted(TWICE, (1, 0, 0)))
        self.assertIs(shows_shifted(value=told, shift=(1, 0, 0), circuit=TWICE), True)


if __name__ == "__main__":
    unittest.main()
