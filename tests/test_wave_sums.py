"""Sums, differences and products of Waves: section 6, beside the rules of cosines and sines worked out anew."""

import operator
import random
import unittest
from fractions import Fraction

import helper
from helper import by_hand, fraction, product_by_hand, some_rows, terms_of, value, wave_of
from looseknobs.circuits import Circuit
from looseknobs.errors import BadWord
from looseknobs.ratios import Ratio
from looseknobs.spreads import spread
from looseknobs.waves import Wave
from looseknobs.words import Word

KNOBS = ("a", "b", "cc")
ACTS = (operator.add, operator.sub, operator.mul)
NUMBERS = (0, 1, -1, 7, Ratio(0), Ratio(1), Ratio(-2, 3), Ratio(5, 4), 10 ** 399)
REFUSED = (
    True, False, None, "1", "", "k", (), (1,), [], [1], {}, 1.0, Word("X"), Circuit("wires 1"),
    spread(Circuit("wires 1"), Word("X")), BadWord(1),
)


class SumsTest(unittest.TestCase):
    def in_one_way(self, wave):
        self.assertIsInstance(wave, Wave)
        self.assertEqual(wave, Wave(wave.terms))
        self.assertEqual(sorted(set(row[0] for row in wave.terms)), [row[0] for row in wave.terms])
        self.assertEqual(wave.knobs, tuple(sorted({knob for turns, c, s in wave.terms for knob, many in turns})))
        for turns, c, s in wave.terms:
            self.assertTrue(c != Ratio(0) or s != Ratio(0))
            self.assertTrue((turns[0][1] > 0) if turns else s == Ratio(0))
            self.assertIsInstance(c, Ratio)
            self.assertIsInstance(s, Ratio)

    def test_two_waves(self):
        rng = random.Random(61)
        for _ in range(300):
            one, two = some_rows(rng), some_rows(rng)
            wanted = {
                operator.add: by_hand(one + two),
                operator.sub: by_hand(one + [(turns, -c, -s) for turns, c, s in two]),
                operator.mul: by_hand(product_by_hand(one, two)),
            }
            for act in ACTS:
                got = act(wave_of(one), wave_of(two))
                self.in_one_way(got)
                self.assertEqual(terms_of(got), wanted[act])

    def test_at_settings(self):
        rng = random.Random(62)
        for _ in range(200):
            one, two = some_rows(rng), some_rows(rng)
            for slanted in (True, True, False):
                angles = helper.some_angles(rng, KNOBS, slanted)
                setting = helper.setting_of(angles)
                for act in ACTS:
                    got = fraction(act(wave_of(one), wave_of(two)).at(setting))
                    self.assertEqual(got, act(value(one, angles), value(two, angles)))

    def test_the_contrary_one(self):
        rng = random.Random(63)
        for _ in range(100):
            rows = some_rows(rng)
            got = -wave_of(rows)
            self.in_one_way(got)
            self.assertEqual(terms_of(got), by_hand([(turns, -c, -s) for turns, c, s in rows]))
            self.assertEqual(-got, wave_of(rows))

    def test_numbers_on_either_side(self):
        rng = random.Random(64)
        for _ in range(40):
            rows = some_rows(rng)
            wave = wave_of(rows)
            for number in NUMBERS:
                plain = [((), fraction(number), Fraction(0))]
                negative = [((), -fraction(number), Fraction(0))]
                against = [(turns, -c, -s) for turns, c, s in rows]
                pairs = (
                    (wave + number, rows + plain), (number + wave, rows + plain),
                    (wave - number, rows + negative), (number - wave, against + plain),
                    (wave * number, product_by_hand(rows, plain)), (number * wave, product_by_hand(plain, rows)),
                )
                for got, wanted in pairs:
                    self.in_one_way(got)
                    self.assertEqual(terms_of(got), by_hand(wanted))

    def test_terms_that_cancel(self):
        rng = random.Random(65)
        for _ in range(60):
            wave, other = wave_of(some_rows(rng)), wave_of(some_rows(rng))
            self.assertEqual((wave - wave).terms, ())
            self.assertEqual((wave + -wave).terms, ())
            self.assertEqual((wave * 0).terms, ())
            self.assertEqual((0 * wave).terms, ())
            self.assertEqual((wave + other) - other, wave)
            self.assertEqual((wave + other) * (wave - other), wave * wave - other * other)
            self.assertEqual(wave * Ratio(1, 2) + Ratio(1, 2) * wave, wave)
        c, s = Wave((((("k", 3),), 1, 0),)), Wave((((("k", 3),), 0, 1),))
        self.assertEqual((c * c + s * s).terms, (((), Ratio(1), Ratio(0)),))
        self.assertEqual((c * c + s * s - 1).terms, ())
        self.assertEqual((c * s - s * c).terms, ())
        self.assertEqual((1 - c - 1 + c).terms, ())

    def test_of_nothing(self):
        nothing = Wave(())
        self.assertEqual((nothing + nothing).terms, ())
        self.assertEqual((nothing * 5).terms, ())
        self.assertEqual((nothing + 5).terms, (((), Ratio(5), Ratio(0)),))
        self.assertEqual((5 - nothing).terms, (((), Ratio(5), Ratio(0)),))
        self.assertEqual((nothing + 0).terms, ())
        self.assertEqual((-nothing).terms, ())

    def test_the_first_integer_comes_out_above_0(self):
        one, two = Wave((((("k", 1), ("m", 1)), 0, 1),)), Wave((((("k", 2),), 1, 0),))
        self.assertEqual(
            (one * two).terms,
            (((("k", 1), ("m", -1)), Ratio(0), Ratio(-1, 2)), ((("k", 3), ("m", 1)), Ratio(0), Ratio(1, 2))),
        )

    def test_great_numbers(self):
        big = 10 ** 399 + 9
        one, two = Wave((((("k", 999999),), big, Ratio(1, big)),)), Wave((((("k", 1),), Ratio(1, big + 2), 0),))
        self.assertEqual(terms_of(one * two), by_hand(product_by_hand(
            [((("k", 999999),), Fraction(big), Fraction(1, big))], [((("k", 1),), Fraction(1, big + 2), Fraction(0))])))

    def test_operands_stay_as_they_are(self):
        one, two = Wave((((("k", 1),), 1, 0),)), Wave((((("m", 1),), 0, 1),))
        kept = (one.terms, two.terms)
        one + two, one - two, one * two, -one, one + 1, 2 * one, one.slope("k")
        self.assertEqual((one.terms, two.terms), kept)

    def test_refused_operands(self):
        for wave in (Wave(()), Wave((((("k", 1),), 1, 0),))):
            for wrong in REFUSED:
                for act in ACTS:
                    with self.subTest(act=act.__name__, wrong=wrong):
                        with self.assertRaises(TypeError):
                            act(wave, wrong)
                        with self.assertRaises(TypeError):
                            act(wrong, wave)
            for act in (operator.lt, operator.le, operator.gt, operator.ge):
                for wrong in REFUSED + (1, Ratio(1), wave):
                    with self.assertRaises(TypeError):
                        act(wave, wrong)


if __name__ == "__main__":
    unittest.main()
