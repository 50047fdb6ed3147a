"""Alike from a start or not: section 13 and guarantee (a)."""

import itertools
import random
import unittest
from fractions import Fraction

import helper
from helper import refused, with_lines
from looseknobs.circuits import Circuit
from looseknobs.errors import OtherSize
from looseknobs.likeness import same
from looseknobs.ratios import Ratio
from looseknobs.starts import Start, alike_from, mean, shows_alike_from
from looseknobs.words import Word

SAME = ("same",)
RISE = Circuit("wires 2\nturn IZ by 1 n\nturn XI by 1 k\ncx 0 1\nturn ZZ by 1 m")
NOUGHT = Start((Word("ZI"), Word("IZ")))


def start_of(texts):
    return Start(tuple(Word(text) for text in texts))


def knobs_of(*circuits):
    return tuple(sorted({knob for circuit in circuits for knob in circuit.knobs}))


def means(circuit, texts, angles):
    return [helper.mean_at(circuit.text, texts, letters, angles) for letters in helper.all_letters(circuit.wires)]


class AlikeTest(unittest.TestCase):
    def is_same(self, one, other, texts):
        self.assertEqual(alike_from(one, other, start_of(texts)), SAME, (one.text, other.text, texts))
        self.assertIs(shows_alike_from(one, other, start_of(texts), SAME), True)

    def is_apart(self, one, other, texts):
        """What is told apart is parted at the told setting, by a going of the test's own."""
        start = start_of(texts)
        told = alike_from(one, other, start)
        self.assertIs(type(told), tuple)
        self.assertEqual(len(told), 3, (one.text, other.text, texts))
        name, setting, word = told
        self.assertEqual(name, "apart")
        helper.check_setting(self, setting, knobs_of(one, other))
        self.assertIsInstance(word, Word)
        self.assertEqual(len(word), one.wires)
        angles = helper.angles_of(setting)
        found = [helper.mean_at(circuit.text, texts, word.text, angles) for circuit in (one, other)]
        self.assertNotEqual(*found)
        self.assertIs(shows_alike_from(one, other, start, told), True)
        self.assertIs(shows_alike_from(one, other, start, SAME), False)
        self.assertEqual(alike_from(one, other, start), told)

    def is_right(self, one, other, texts, rng):
        """Whatever is told is so; returns whether they are alike."""
        if alike_from(one, other, start_of(texts)) != SAME:
            self.is_apart(one, other, texts)
            return False
        angles = helper.some_angles(rng, knobs_of(one, other))
        self.assertEqual(means(one, texts, angles), means(other, texts, angles), (one.text, other.text, texts))
        self.assertIs(shows_alike_from(one, other, start_of(texts), SAME), True)
        return True

    def test_circuits_that_do_the_same(self):
        rng = random.Random(231)
        for circuit in helper.some_circuits(232, 60):
            lines = helper.lines_of(circuit)
            for _ in range(2):
                place = rng.randrange(len(lines) + 1)
                line = rng.choice((helper.some_fixed(rng, circuit.wires), helper.some_turn(rng, circuit.wires, "axy")))
                lines[place:place] = [line, (~with_lines(circuit.wires, [line]))[0]]
            if sum(line.startswith("turn ") for line in lines) <= 6:
                texts = helper.some_start(rng, circuit.wires)
                self.is_same(circuit, with_lines(circuit.wires, lines), texts)
                self.is_same(with_lines(circuit.wires, lines), circuit, texts)

    def test_apart_and_yet_alike_from_the_start(self):
        for one, other, texts in (
            (RISE, RISE.without(3).without(0), ["ZI", "IZ"]),
            (RISE, RISE.without(3), ["ZI", "IZ"]),
            (RISE, RISE.without(0), ["ZI", "IZ"]),
            (RISE, RISE.without(3).without(0), ["-IZ", "ZZ"]),
            (RISE, RISE.without(3).without(1).without(0), ["XI", "IZ"]),
            (Circuit("wires 1\nturn Z by 1 k"), Circuit("wires 1\nflip Z"), ["-Z"]),
            (Circuit("wires 2\nturn XX by 3 k\nturn ZZ by 1 m"), Circuit("wires 2"), ["XX", "ZZ"]),
            (Circuit("wires 2\nh 0\nh 1"), Circuit("wires 2"), ["XZ", "ZX"]),
            (Circuit("wires 2\nswap 0 1"), Circuit("wires 2"), ["IX", "XI"]),
            (Circuit("wires 1\nh 0\nturn X by 4 a -4 b"), Circuit("wires 1\nh 0"), ["Z"]),
        ):
            self.assertEqual(same(one, other)[0], "apart")
            self.is_same(one, other, texts)
            self.is_same(other, one, texts)

    def test_it_goes_by_the_start(self):
        one, other = Circuit("wires 2\nswap 0 1"), Circuit("wires 2")
        for texts in (["ZI", "IZ"], ["-ZI", "-IZ"], ["XX", "ZZ"], ["-ZZ", "YY"]):
            self.is_same(one, other, texts)
        for texts in (["ZI", "-IZ"], ["XI", "IZ"], ["-ZZ", "IZ"], ["XZ", "-ZX"]):
            self.is_apart(one, other, texts)

    def test_agreeing_at_all_quarters_and_yet_apart(self):
        for one, other, texts in (
            ("wires 1\nturn X by 4 k", "wires 1", ["Z"]),
            ("wires 2\nturn XY by 4 k 4 m", "wires 2\nturn XI by 4 k", ["ZI", "IZ"]),
            ("wires 1\nturn X by 2 k\nturn Z by 2 m", "wires 1\nturn X by 2 k", ["Z"]),
            ("wires 1\nturn X by 1 k", "wires 1\nturn X by -3 k", ["-Z"]),
            ("wires 2\nturn ZI by 4 k", "wires 2", ["XX", "ZZ"]),
        ):
            one, other = Circuit(one), Circuit(other)
            knobs = knobs_of(one, other)
            for quarters in itertools.product(helper.QUARTERS, repeat=len(knobs)):
                angles = {knob: tuple(map(Fraction, told)) for knob, told in zip(knobs, quarters)}
                self.assertEqual(means(one, texts, angles), means(other, texts, angles))
            self.is_apart(one, other, texts)
            self.is_apart(other, one, texts)

    def test_one_line_otherwise(self):
        rng = random.Random(233)
        seen = {True: 0, False: 0}
        for circuit in helper.some_circuits(234, 320, turns=5, fixed=4):
            lines = helper.lines_of(circuit)
            if not lines:
                continue
            changed = list(lines)
            at = rng.randrange(len(lines))
            turning = lines[at].startswith("turn ")
            new = helper.some_turn(rng, circuit.wires, "abcdx") if turning else helper.some_fixed(rng, circuit.wires)
            changed[at : at + 1] = rng.choice(([], [new]))
            texts = helper.some_start(rng, circuit.wires)
            seen[self.is_right(circuit, with_lines(circuit.wires, changed), texts, rng)] += 1
        self.assertGreater(min(seen.values()), 15)

    def test_small_drawn_pairs(self):
        rng = random.Random(235)
        seen = {True: 0, False: 0}
        for _ in range(200):
            wires = rng.randint(1, 2)
            pair = [Circuit(helper.some_text(rng, wires, rng.randint(0, 2), rng.randint(0, 2), "a", 1)) for _ in range(2)]
            texts = helper.some_start(rng, wires)
            seen[self.is_right(*pair, texts, rng)] += 1
        self.assertGreater(min(seen.values()), 8)

    def test_the_same_exactly_if_all_means_are(self):
        rng = random.Random(236)
        for _ in range(60):
            wires = rng.randint(1, 3)
            pair = [Circuit(helper.some_text(rng, wires, rng.randint(0, 2), rng.randint(0, 2), "ab", 1)) for _ in range(2)]
            start = start_of(helper.some_start(rng, wires))
            wanted = all(mean(pair[0], start, Word(text)) == mean(pair[1], start, Word(text)) for text in helper.all_letters(wires))
            self.assertIs(alike_from(*pair, start) == SAME, wanted)

    def test_the_largest_circuits(self):
        rng = random.Random(237)
        for seed in range(4):
            circuit = Circuit(helper.large_text(seed + 60))
            texts = helper.some_start(rng, 4)
            self.is_same(circuit, circuit, texts)
            for other in (circuit.without(circuit.turns[-1]), ~circuit, circuit.without(circuit.turns[0])):
                if alike_from(circuit, other, start_of(texts)) != SAME:
                    self.is_apart(circuit, other, texts)


class ShownTest(unittest.TestCase):
    def setUp(self):
        self.one = Circuit("wires 1\nturn X by 1 k\nturn Z by 1 m")
        self.other = Circuit("wires 1\nturn X by 1 k\nturn Z by -1 m")
        self.start = Start((Word("Z"),))
        self.setting = (("k", Ratio(3, 5), Ratio(4, 5)), ("m", 0, 1))

    def shown(self, value, one=None, other=None):
        got = shows_alike_from(one or self.one, other or self.other, self.start, value)
        self.assertIs(type(got), bool)
        return got

    def test_all_settings_of_quarters_and_others(self):
        angles_of = [(0, 1), (1, 0), (-1, 0), (0, -1), (Ratio(3, 5), Ratio(-4, 5))]
        parted = 0
        for told in itertools.product(angles_of, repeat=2):
            setting = tuple((knob, c, s) for knob, (c, s) in zip("km", told))
            angles = helper.angles_of(setting)
            for text in ("X", "-X", "Y", "Z", "I", "-I"):
                found = [helper.mean_at(circuit.text, ["Z"], text, angles) for circuit in (self.one, self.other)]
                self.assertIs(self.shown(("apart", setting, Word(text))), found[0] != found[1])
                parted += found[0] != found[1]
        self.assertGreater(parted, 10)

    def test_wrong_settings(self):
        k, m = self.setting
        self.assertTrue(self.shown(("apart", (k, m), Word("X"))))
        for setting in (
            (), (k,), (m,), (m, k), (k, m, ("n", 1, 0)), (("a", 1, 0), k, m), (k, ("n", 0, 1)), [k, m], (list(k), m), (k, k),
            (k, m, m), (("k", 1, 1), m), (("k", True, 0), m), (("k", 0, True), m), (k, ("m", 0, 2)), (k, ("m", "0", 1)),
            None, "k", {"k": (0, 1)}, (("k", 0), m), (k, m, None), (("K", 0, 1), m),
        ):
            self.assertFalse(self.shown(("apart", setting, Word("X"))), setting)

    def test_wrong_words(self):
        for word in ("X", Word("XX"), Word("II"), None, 1, ("X",), [Word("X")], Circuit("wires 1"), Word("XXXX"), self.start):
            self.assertFalse(self.shown(("apart", self.setting, word)))

    def test_values_of_any_kind(self):
        right = ("apart", self.setting, Word("X"))
        self.assertTrue(self.shown(right))
        for value in helper.any_values() + [
            list(right), right[:2], right + (1,), right[:1], ("Apart",) + right[1:], (True,) + right[1:], (None,) + right[1:],
            (("apart",),) + right[1:], right[::-1], ("same", self.setting, Word("X")), ("same", "same"), "apart", ("apart",),
            (["same"],), ("Same",), (right,), {"apart": right}, self.start,
        ]:
            self.assertFalse(self.shown(value))
            if value != SAME:
                self.assertFalse(self.shown(value, self.one, self.one))
        self.assertTrue(self.shown(SAME, self.one, self.one))
        self.assertFalse(self.shown(["same"], self.one, self.one))
        self.assertFalse(self.shown(right, self.one, self.one))

    def test_what_does_not_do_the_same_but_is_alike(self):
        value = ("apart", (("k", 0, 1), ("m", 0, 1), ("n", 0, 1)), Word("YX"))
        self.assertIs(shows_alike_from(RISE, RISE.without(3), NOUGHT, value), False)
        self.assertIs(shows_alike_from(RISE, RISE.without(3), NOUGHT, SAME), True)
        self.assertIs(shows_alike_from(RISE, RISE.without(1), NOUGHT, value), True)
        self.assertIs(shows_alike_from(RISE, RISE.without(1), NOUGHT, SAME), False)

    def test_great_numbers(self):
        n = 10 ** 60 + 1
        c, s = Ratio(1 - n * n, 1 + n * n), Ratio(2 * n, 1 + n * n)
        self.assertTrue(self.shown(("apart", (("k", c, s), ("m", c, s)), Word("X"))))
        self.assertFalse(self.shown(("apart", (("k", c, s), ("m", c, s)), Word("Y"))))

    def test_refused(self):
        two = Start((Word("ZZ"), Word("XX")))
        for act, more in ((alike_from, ()), (shows_alike_from, (SAME,)), (shows_alike_from, (None,))):
            for other in [Circuit("wires 2"), Circuit("wires 4\nh 0"), self.start, two] + helper.any_values():
                if not isinstance(other, Circuit) or other.wires != 1:
                    for start in (self.start, two):
                        refused(self, OtherSize, other, act, self.one, other, start, *more)
            refused(self, OtherSize, two, act, self.one, self.other, two, *more)

    def test_by_name(self):
        told = alike_from(start=self.start, other=self.other, one=self.one)
        self.assertEqual(told, alike_from(self.one, self.other, self.start))
        self.assertIs(shows_alike_from(value=told, start=self.start, other=self.other, one=self.one), True)


if __name__ == "__main__":
    unittest.main()
