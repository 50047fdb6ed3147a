"""What is seen of the knobs: section 10, without shifts."""

import random
import unittest
from fractions import Fraction
from math import gcd

import helper
from helper import refused
from looseknobs.circuits import Circuit
from looseknobs.errors import BadWord, NoKnob, OtherSize
from looseknobs.likeness import same
from looseknobs.seeing import hangs, hidden, parts, seen
from looseknobs.spreads import spread
from looseknobs.words import Word

DRAWN = helper.some_circuits(101, 60, turns=5) + helper.some_circuits(102, 40, turns=3, knobs=("a", "b"))


def rounds(circuit):
    """How often each knob's angle goes round, in any wave of any word."""
    found = set()
    for letters in helper.all_letters(circuit.wires):
        for place, wave in spread(circuit, Word(letters)).terms:
            for turns, c, s in wave.terms:
                many = dict(turns)
                found.add(tuple(many.get(knob, 0) for knob in circuit.knobs))
    return sorted(found)


class HiddenTest(unittest.TestCase):
    def in_one_way(self, rows, size):
        self.assertIs(type(rows), tuple)
        last = -1
        for number, row in enumerate(rows):
            self.assertIs(type(row), tuple)
            self.assertEqual([type(n) for n in row], [int] * size)
            place = next(at for at, n in enumerate(row) if n != 0)
            self.assertGreater(place, last)
            self.assertGreater(row[place], 0)
            for ahead in rows[:number]:
                self.assertTrue(0 <= ahead[place] < row[place])
            last = place

    def test_beside_a_clearing(self):
        for circuit in DRAWN:
            rows = hidden(circuit)
            self.in_one_way(rows, len(circuit.knobs))
            self.assertEqual(rows, helper.cleared(rounds(circuit), len(circuit.knobs)), circuit.text)
            self.assertIs(type(seen(circuit)), int)
            self.assertEqual(seen(circuit), len(circuit.knobs) - len(rows))

    def test_knobs_in_several_turns(self):
        for lines, wanted in (
            (["turn X by 2 a 3 b"], ((3, -2),)),
            (["turn X by 2 a 4 b"], ((2, -1),)),
            (["turn X by 1 a -4 b"], ((4, 1),)),
            (["turn X by 1 a 2 b 3 c"], ((1, 1, -1), (0, 3, -2))),
            (["turn X by 2 b 4 c", "turn Z by 1 b 2 c"], ((2, -1),)),
            (["turn X by 1 a 1 b", "turn Z by 1 a -1 b"], ()),
            (["turn X by 1 a", "turn X by -1 a"], ((1,),)),
            (["turn X by 1 a", "turn X by -1 a", "turn Z by 1 b"], ((1, 0),)),
            (["turn X by 1 b", "flip Z", "turn X by 1 a", "turn X by 1 c"], ((1, 0, -1), (0, 1, 1))),
            ([], ()),
            (["turn X by 1 k"], ()),
        ):
            circuit = Circuit("\n".join(["wires 1"] + lines))
            self.assertEqual(hidden(circuit), wanted, lines)
            self.assertEqual(seen(circuit), len(circuit.knobs) - len(wanted))

    def test_great_rows(self):
        lines = [f"turn {'IIII'[:at] + 'Z' + 'III'[at:]} by 4 {a} -1 {b}" for at, (a, b) in enumerate(("ab", "bc", "cd", "de"))]
        circuit = Circuit("\n".join(["wires 4"] + lines + ["turn ZZII by 4 e -1 f", "turn ZIIZ by 4 f -1 g"]))
        self.assertEqual(hidden(circuit), ((1, 4, 16, 64, 256, 1024, 4096),))

    def test_the_largest_circuits(self):
        for seed in range(3):
            circuit = Circuit(helper.large_text(seed + 20))
            rows = hidden(circuit)
            self.in_one_way(rows, 18)
            found = {row for letters in helper.first_words(4) for row in self.rounds_of(circuit, letters)}
            self.assertEqual(rows, helper.cleared(sorted(found), 18))

    def rounds_of(self, circuit, letters):
        for place, wave in spread(circuit, Word(letters)).terms:
            for turns, c, s in wave.terms:
                yield tuple(dict(turns).get(knob, 0) for knob in circuit.knobs)

    def test_rows_hide_and_others_do_not(self):
        rng = random.Random(103)
        for circuit in DRAWN[:40]:
            rows = hidden(circuit)
            angles = helper.some_angles(rng, circuit.knobs)
            turned_on = (Fraction(3, 5), Fraction(4, 5))
            shifts = list(rows) + [tuple(int(at == place) for place in range(len(circuit.knobs))) for at in range(len(circuit.knobs))]
            for shift in shifts:
                if any(abs(n) > 30 for n in shift):
                    continue
                later = {
                    knob: helper.added(angles[knob], helper.many_times(turned_on, many))
                    for knob, many in zip(circuit.knobs, shift)
                }
                words = helper.first_words(circuit.wires)
                alike = all(helper.back(circuit.text, w, angles) == helper.back(circuit.text, w, later) for w in words)
                self.assertIs(alike, all(sum(a * b for a, b in zip(row, shift)) == 0 for row in rounds(circuit)))
                if shift in rows:
                    self.assertTrue(alike)

    def test_by_name_and_again(self):
        circuit = DRAWN[7]
        self.assertEqual(hidden(circuit=circuit), hidden(circuit))
        self.assertEqual(seen(circuit=circuit), seen(circuit))


class PartsTest(unittest.TestCase):
    def test_told_parts(self):
        for lines, knob, wanted in (
            (["turn X by 1 k"], "k", 1), (["turn X by 4 k"], "k", 4), (["turn X by -3 k"], "k", 3),
            (["turn X by 2 k", "turn X by 4 k"], "k", 6), (["turn X by 2 k", "turn Z by 4 k"], "k", 2),
            (["turn X by 4 k", "turn Z by -4 k"], "k", 4), (["turn X by 3 k", "turn Z by 2 k"], "k", 1),
            (["turn X by 2 k", "turn X by -2 k"], "k", 0), (["turn X by 2 k 1 m", "turn X by -2 k"], "k", 0),
            (["turn X by 2 k 1 m", "turn X by -2 k"], "m", 1), (["turn X by 4 k", "turn X by 4 k", "turn X by 4 k"], "k", 12),
            (["turn X by 4 k"] * 6, "k", 24), (["turn X by 1 a 4 k", "turn Z by 2 k"], "k", 2),
        ):
            self.assertEqual(parts(Circuit("\n".join(["wires 1"] + lines)), knob), wanted, lines)

    def test_beside_waves(self):
        for circuit in DRAWN:
            found = rounds(circuit)
            for place, knob in enumerate(circuit.knobs):
                wanted = 0
                for row in found:
                    wanted = gcd(wanted, row[place])
                self.assertIs(type(parts(circuit, knob)), int)
                self.assertEqual(parts(circuit, knob), wanted)

    def test_parts_of_a_round(self):
        # A half and a quarter of a round are angles that fractions tell.
        rng = random.Random(104)
        for circuit in DRAWN[:40]:
            angles = helper.some_angles(rng, circuit.knobs)
            for knob in circuit.knobs:
                many = parts(circuit, knob)
                for part, turned_on in ((2, (Fraction(-1), Fraction(0))), (4, (Fraction(0), Fraction(1)))):
                    later = dict(angles, **{knob: helper.added(angles[knob], turned_on)})
                    words = helper.first_words(circuit.wires)
                    alike = all(helper.back(circuit.text, w, angles) == helper.back(circuit.text, w, later) for w in words)
                    if many % part == 0:
                        self.assertTrue(alike)
                    if not alike:
                        self.assertNotEqual(many % part, 0)

    def test_no_knobs(self):
        circuit = Circuit("wires 2\nturn XI by 1 k 2 m")
        for wrong in helper.any_values() + ["a", "K", "km", "", " k", ("k",), ["k"], Circuit("wires 2\nturn XI by 1 k")]:
            if wrong != "k":
                refused(self, NoKnob, wrong, parts, circuit, wrong)
        refused(self, NoKnob, "k", parts, Circuit("wires 2"), "k")
        self.assertEqual(parts(knob="m", circuit=circuit), 2)


class HangsTest(unittest.TestCase):
    def test_beside_spreads(self):
        for circuit in DRAWN:
            for letters in helper.all_letters(circuit.wires)[::3]:
                for text in (letters, "-" + letters):
                    self.assertEqual(hangs(circuit, Word(text)), spread(circuit, Word(text)).knobs)

    def test_by_settings_unlike_in_one_knob(self):
        rng = random.Random(105)
        for circuit in DRAWN[:40]:
            for letters in helper.first_words(circuit.wires):
                told = hangs(circuit, Word(letters))
                self.assertEqual(list(told), sorted(set(told)))
                for knob in circuit.knobs:
                    unlike = False
                    for _ in range(6):
                        angles = helper.some_angles(rng, circuit.knobs)
                        later = dict(angles, **helper.some_angles(rng, [knob]))
                        unlike |= helper.back(circuit.text, letters, angles) != helper.back(circuit.text, letters, later)
                    self.assertIs(knob in told, unlike, (circuit.text, letters, knob))

    def test_all_I_hangs_on_none(self):
        for circuit in DRAWN[:12]:
            self.assertEqual(hangs(circuit, Word("I" * circuit.wires)), ())

    def test_errors(self):
        circuit = Circuit("wires 2\nturn XI by 1 k")
        for wrong in helper.any_values() + ["ZI"]:
            if not isinstance(wrong, Word):
                refused(self, BadWord, wrong, hangs, circuit, wrong)
        for text in ("X", "-III", "IIII"):
            word = Word(text)
            refused(self, OtherSize, word, hangs, circuit, word)
        self.assertEqual(hangs(word=Word("ZI"), circuit=circuit), ("k",))

    def test_a_turn_that_nothing_hangs_on(self):
        circuit = Circuit("wires 2\nturn XX by 1 a\nturn XX by -1 a\nturn ZZ by 1 b")
        self.assertEqual([hangs(circuit, Word(text)) for text in ("XX", "ZI", "XI")], [(), (), ("b",)])
        self.assertEqual(same(circuit, circuit.without(0).without(0)), ("same",))


if __name__ == "__main__":
    unittest.main()
