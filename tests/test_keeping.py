"""Kept and bound words: section 12, beside spreads of all words."""

import random
import unittest

import helper
from looseknobs.circuits import Circuit
from looseknobs.keeping import bound, kept
from looseknobs.seeing import hangs
from looseknobs.spreads import spread
from looseknobs.waves import Wave
from looseknobs.words import Word

ONE = Wave((((), 1, 0),))
DRAWN = (
    helper.some_circuits(141, 40, turns=2, fixed=3) + helper.some_circuits(142, 20, turns=5)
    + helper.some_circuits(143, 12, turns=2, fixed=0) + helper.some_circuits(144, 12, turns=0, fixed=3)
)


class KeepingTest(unittest.TestCase):
    def test_beside_spreads_of_all_words(self):
        some = 0
        for circuit in DRAWN:
            letters = helper.all_letters(circuit.wires)[1:]
            spreads = {text: spread(circuit, Word(text)) for text in letters}
            wanted = tuple(text for text in letters if spreads[text].terms == ((text, ONE),))
            self.assertEqual(kept(circuit), wanted, circuit.text)
            free = []
            for text in letters:
                if spreads[text].knobs == ():
                    ((made, wave),) = spreads[text].terms
                    free.append((text, made if wave == ONE else "-" + made))
                    self.assertIn(wave, (ONE, -ONE))
            told = bound(circuit)
            self.assertEqual([(text, word.text) for text, word in told], free)
            self.assertEqual([type(told), type(kept(circuit))], [tuple, tuple])
            for text, word in told:
                self.assertIsInstance(word, Word)
                self.assertEqual(hangs(circuit, Word(text)), ())
            self.assertLessEqual(set(wanted), {text for text, word in told})
            some += 0 < len(wanted) < len(letters) and len(wanted) < len(told)
        self.assertGreater(some, 5)

    def test_at_settings(self):
        rng = random.Random(145)
        for circuit in DRAWN[:40]:
            angles = helper.some_angles(rng, circuit.knobs)
            for text in kept(circuit):
                self.assertEqual(helper.back(circuit.text, text, angles), {text: 1})
            for text, word in bound(circuit):
                self.assertEqual(helper.back(circuit.text, text, angles), {word.letters: word.sign})

    def test_told_ones(self):
        circuit = Circuit("wires 1\nflip X\nturn Z by 1 k")
        self.assertEqual((kept(circuit), [(text, word.text) for text, word in bound(circuit)]), ((), [("Z", "-Z")]))
        self.assertEqual(kept(Circuit("wires 1")), ("X", "Y", "Z"))
        self.assertEqual(len(kept(Circuit("wires 4"))), 255)
        self.assertEqual(kept(Circuit("wires 1\nturn X by 1 a\nturn Z by 1 b")), ())
        self.assertEqual(bound(Circuit("wires 1\nturn X by 1 a\nturn Z by 1 b")), ())
        self.assertEqual(kept(Circuit("wires 1\nturn X by 1 a\nturn X by -1 a")), ("X", "Y", "Z"))
        self.assertEqual([word.text for text, word in bound(Circuit("wires 1\nh 0"))], ["Z", "-Y", "X"])
        self.assertEqual(kept(Circuit("wires 2\nswap 0 1")), ("XX", "YY", "ZZ"))
        self.assertEqual(kept(Circuit("wires 1\nflip X\nflip Z\nflip Y")), ("X", "Y", "Z"))

    def test_the_largest_circuits(self):
        circuit = Circuit(helper.large_text(50))
        both = circuit.without(39).without(38).without(37)
        self.assertEqual(kept(both), tuple(text for text, word in bound(both) if word.text == text))
        same_word = "\n".join(["wires 4"] + [f"turn XYZI by {n} a{x} {n} b{x} 1 c{x}" for n, x in zip((1, 2, 3, 4, -1, -2), "abcdef")])
        self.assertEqual(len(kept(Circuit(same_word))), 127)

    def test_names_and_equal_calls(self):
        self.assertEqual(kept(circuit=DRAWN[3]), kept(DRAWN[3]))
        self.assertEqual(bound(circuit=DRAWN[3]), bound(DRAWN[3]))


if __name__ == "__main__":
    unittest.main()
