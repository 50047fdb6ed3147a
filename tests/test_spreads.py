"""Words led back through circuits: section 8 and guarantees (a) and (b)."""

import random
import unittest
from fractions import Fraction

import helper
from helper import NO_SETTINGS, refused, refused_about
from looseknobs.circuits import Circuit
from looseknobs.errors import BadSetting, BadWord, Loose, OtherSize
from looseknobs.ratios import Ratio
from looseknobs.spreads import Spread, spread
from looseknobs.waves import Wave
from looseknobs.words import Word

ONE = Wave((((), 1, 0),))
ANGLES = {"k": (Fraction(3, 5), Fraction(4, 5)), "m": (Fraction(-8, 15 + 2), Fraction(15, 17)), "n": (Fraction(0), Fraction(1))}


def cosine(*turns):
    return Wave(((turns, 1, 0),))


def sine(*turns):
    return Wave(((turns, 0, 1),))


def words(wires):
    return [sign + letters for letters in helper.all_letters(wires) for sign in ("", "-")]


def some_words(rng, wires, many=6):
    return [rng.choice(words(wires)) for _ in range(many)]


class EachLineTest(unittest.TestCase):
    """Each form against the rule of section 8, line by line in the test."""

    def right(self, text, word, angles):
        got = spread(Circuit(text), Word(word)).at(helper.setting_of(angles))
        self.assertEqual(helper.told_numbers(got), helper.back(text, word, angles), (text, word))

    def test_fixed_lines(self):
        lines = [
            "flip XII", "flip -IYI", "flip IIZ", "flip XYZ", "quarter XII", "quarter -IYI", "quarter IIZ", "quarter -XYZ",
            "quarter ZZI", "h 0", "h 1", "h 2",
        ] + [f"{kind} {a} {b}" for kind in ("cz", "cx", "swap") for a in range(3) for b in range(3) if a != b]
        for line in lines:
            for word in words(3):
                self.right("wires 3\n" + line, word, {})

    def test_turns(self):
        for about in ("XII", "-IYI", "ZZZ", "-XYZ", "IXI"):
            for pairs in ("1 k", "-1 k", "3 k", "-4 k", "2 k -3 m", "-1 k 1 n 4 m"):
                for word in words(3):
                    self.right(f"wires 3\nturn {about} by {pairs}", word, ANGLES)

    def test_lines_as_the_quarters_that_they_are_told_by(self):
        for wires in (1, 2, 4):
            places = [(a, b) for a in range(wires) for b in range(wires) if a != b]
            lines = [f"h {a}" for a in range(wires)] + [f"{kind} {a} {b}" for kind in ("cz", "cx", "swap") for a, b in places]
            for line in lines:
                one = Circuit(f"wires {wires}\n{line}")
                other = Circuit("\n".join([f"wires {wires}"] + helper.expanded(line, wires)))
                for word in words(wires)[::5]:
                    self.assertEqual(spread(one, Word(word)), spread(other, Word(word)))

    def test_terms_word_for_word(self):
        got = spread(Circuit("wires 1\nturn X by 2 k -1 m"), Word("Z")).terms
        turns = (("k", 2), ("m", -1))
        self.assertEqual(got, (("Y", sine(*turns)), ("Z", cosine(*turns))))
        got = spread(Circuit("wires 1\nturn X by 2 m -1 k"), Word("-Z")).terms
        turns = (("k", 1), ("m", -2))
        self.assertEqual(got, (("Y", sine(*turns)), ("Z", -cosine(*turns))))
        self.assertEqual(spread(Circuit("wires 1\nturn X by 1 k"), Word("-X")).terms, (("X", -ONE),))
        self.assertEqual(spread(Circuit("wires 1"), Word("-I")).terms, (("I", -ONE),))


class DrawnTest(unittest.TestCase):
    def test_line_by_line_at_settings(self):
        rng = random.Random(81)
        for circuit in helper.some_circuits(81, 120, turns=5, fixed=12):
            for word in some_words(rng, circuit.wires, 4):
                found = spread(circuit, Word(word))
                for slanted in (True, True, False):
                    angles = helper.some_angles(rng, "abcd", slanted)
                    got = found.at(helper.setting_of(angles))
                    self.assertEqual(helper.told_numbers(got), helper.back(circuit.text, word, angles), circuit.text)

    def test_terms_are_told_in_the_one_way(self):
        rng = random.Random(82)
        for circuit in helper.some_circuits(82, 80, turns=6):
            for word in some_words(rng, circuit.wires, 3):
                found = spread(circuit, Word(word))
                self.assertIsInstance(found, Spread)
                letters = [row[0] for row in found.terms]
                self.assertEqual(letters, sorted(set(letters)))
                self.assertEqual(len(found), len(letters))
                self.assertIs(type(found.terms), tuple)
                for place, wave in found.terms:
                    self.assertIsInstance(wave, Wave)
                    self.assertEqual(wave, Wave(wave.terms))
                    self.assertGreater(len(wave), 0)
                    self.assertEqual(Word(place).text, place)
                    self.assertEqual(len(place), circuit.wires)
                knobs = {knob for place, wave in found.terms for knob in wave.knobs}
                self.assertEqual(found.knobs, tuple(sorted(knobs)))
                self.assertLessEqual(knobs, set(circuit.knobs))

    def test_the_other_sign_and_all_I(self):
        for circuit in helper.some_circuits(83, 40, turns=4):
            for letters in helper.all_letters(circuit.wires)[:: circuit.wires * 3]:
                one, other = spread(circuit, Word(letters)), spread(circuit, Word("-" + letters))
                self.assertEqual([(place, -wave) for place, wave in one.terms], list(other.terms))
            nought = "I" * circuit.wires
            self.assertEqual(spread(circuit, Word(nought)).terms, ((nought, ONE),))

    def test_the_largest_circuits(self):
        rng = random.Random(84)
        for seed in (1, 2, 3):
            text = helper.large_text(seed)
            circuit = Circuit(text)
            for word in some_words(rng, 4, 4):
                found = spread(circuit, Word(word))
                angles = helper.some_angles(rng, circuit.knobs)
                got = found.at(helper.setting_of(angles))
                self.assertEqual(helper.told_numbers(got), helper.back(text, word, angles))

    def test_six_turns_of_which_none_pass(self):
        lines = [f"turn {'XZ'[at % 2]}YX{'ZX'[at // 2 % 2]} by 4 a{x} -3 b{x} 1 c{x}" for at, x in enumerate("abcdef")]
        text = "\n".join(["wires 4"] + lines + ["h 0"])
        rng = random.Random(85)
        for word in ("YIII", "IZII", "XYZX"):
            circuit = Circuit(text)
            angles = helper.some_angles(rng, circuit.knobs)
            got = spread(circuit, Word(word)).at(helper.setting_of(angles))
            self.assertEqual(helper.told_numbers(got), helper.back(text, word, angles))


class TwoCircuitsTest(unittest.TestCase):
    def test_guarantee_b_there_and_back(self):
        for circuit in helper.some_circuits(86, 60, turns=3, fixed=15):
            for both in (circuit * ~circuit, ~circuit * circuit):
                for letters in helper.all_letters(circuit.wires)[:: 1 + circuit.wires]:
                    self.assertEqual(spread(both, Word(letters)).terms, ((letters, ONE),))
        circuit = Circuit("wires 4\nturn XYZX by 4 a -3 b 2 c\nswap 0 3\nturn ZZXI by 1 a\nquarter -YYII\nturn IXII by 2 d")
        for letters in helper.all_letters(4):
            self.assertEqual(spread(circuit * ~circuit, Word(letters)).terms, ((letters, ONE),))

    def test_one_behind_the_other(self):
        circuits = helper.some_circuits(87, 60, turns=3)
        for one, other in zip(circuits, circuits[4:]):
            for letters in helper.all_letters(one.wires)[:: 1 + one.wires * 2]:
                waves = {}
                for place, wave in spread(other, Word(letters)).terms:
                    for further, more in spread(one, Word(place)).terms:
                        waves[further] = waves.get(further, 0) + wave * more
                wanted = tuple(sorted(((place, wave) for place, wave in waves.items() if len(wave)), key=lambda row: row[0]))
                self.assertEqual(spread(one * other, Word(letters)).terms, wanted)


class MembersTest(unittest.TestCase):
    def setUp(self):
        self.circuit = Circuit("wires 2\nturn XI by 1 k\nturn IX by 2 z 1 b\nh 0")
        self.found = spread(self.circuit, Word("XZ"))

    def test_part(self):
        for circuit in (self.circuit, Circuit("wires 2\ncx 0 1")):
            found = spread(circuit, Word("XZ"))
            told = dict(found.terms)
            for letters in helper.all_letters(2):
                self.assertEqual(found.part(letters), told.get(letters, Wave(())))
        self.assertEqual(self.found.part("XX").terms, ())
        self.assertEqual(spread(self.circuit, Word("II")).part("II"), ONE)
        self.assertEqual(self.found.part(letters="ZZ"), self.found.part("ZZ"))

    def test_no_letters(self):
        for wrong in helper.any_values() + ["", "X", "XXX", "-XZ", "xz", "XQ", "X Z", " XZ", "XZ\n", ["X", "Z"], ("X", "Z"), Word("XZ")]:
            with self.subTest(wrong=wrong):
                refused(self, BadWord, wrong, self.found.part, wrong)
        refused(self, BadWord, "XZ", spread(Circuit("wires 1"), Word("X")).part, "XZ")

    def test_at(self):
        self.assertEqual(self.found.knobs, ("b", "k", "z"))
        setting = (("b", 0, 1), ("k", 0, 1), ("z", 1, 0))
        for told in (setting, (("a", 1, 0),) + setting, setting + (("zz", 0, -1),)):
            got = self.found.at(told)
            self.assertEqual(got, (("YY", Ratio(1)),))
            self.assertIsInstance(got[0][1], Ratio)
        self.assertEqual(spread(Circuit("wires 1"), Word("-I")).at(()), (("I", Ratio(-1)),))
        self.assertEqual(self.found.at(setting=setting), self.found.at(setting))

    def test_loose(self):
        every = {knob: (knob, 1, 0) for knob in ("a", "b", "k", "z")}
        for knobs, wanted in (("", "b"), ("a", "b"), ("b", "k"), ("bk", "z"), ("kz", "b"), ("abz", "k")):
            refused_about(self, Loose, wanted, self.found.at, tuple(every[knob] for knob in knobs))
        self.assertEqual(self.found.at(tuple(every[knob] for knob in "bkz")), (("ZZ", Ratio(1)),))
        bound = spread(self.circuit, Word("ZI"))
        self.assertEqual((bound.knobs, bound.at(())), ((), (("XI", Ratio(1)),)))

    def test_no_settings_ahead_of_loose(self):
        for wrong in NO_SETTINGS + [value for value in helper.any_values() if value != ()]:
            refused(self, BadSetting, wrong, self.found.at, wrong)
            refused(self, BadSetting, wrong, spread(Circuit("wires 1"), Word("X")).at, wrong)

    def test_equality(self):
        same = spread(Circuit("wires 2\nturn XI by 1 k\nturn IX by 1 b 2 z\nh 0"), Word("XZ"))
        self.assertTrue(self.found == same and not self.found != same)
        others = [
            spread(self.circuit, Word("-XZ")), spread(self.circuit, Word("ZX")), spread(Circuit("wires 2"), Word("XZ")),
            spread(Circuit("wires 1"), Word("X")), spread(Circuit("wires 1"), Word("I")), spread(Circuit("wires 2"), Word("II")),
        ]
        for at, one in enumerate([self.found] + others):
            for number, other in enumerate([self.found] + others):
                self.assertIs(one == other, at == number)
        for other in helper.any_values() + [self.found.terms]:
            self.assertIs(self.found == other, False)
            self.assertIs(other == self.found, False)

    def test_equal_calls_and_names(self):
        self.assertEqual(spread(self.circuit, Word("XZ")), self.found)
        self.assertEqual(spread(word=Word("XZ"), circuit=self.circuit), self.found)
        self.assertEqual(self.circuit.text, "wires 2\nturn XI by 1 k\nturn IX by 2 z 1 b\nh 0")

    def test_no_words(self):
        for wrong in helper.any_values() + ["XZ"]:
            if not isinstance(wrong, Word):
                refused(self, BadWord, wrong, spread, self.circuit, wrong)
        for text in ("X", "-I", "XYZ", "IIII"):
            word = Word(text)
            refused(self, OtherSize, word, spread, self.circuit, word)


if __name__ == "__main__":
    unittest.main()
