"""Reckoning with Ratios: section 4, beside Python's own fractions."""

import operator
import unittest
from fractions import Fraction

from looseknobs.errors import BadRatio
from looseknobs.ratios import Ratio
from looseknobs.words import Word

BIG = 10 ** 399 + 7
PAIRS = [(n, u) for n in (-7, -3, -2, -1, 0, 1, 2, 5, 6) for u in (1, 2, 3, 4, 9)]
WHOLE = (-6, -1, 0, 1, 2, 9)
REFUSED = (True, False, None, "1", "", (1,), [1], {}, 1.0, Word("X"))
RECKONED = (operator.add, operator.sub, operator.mul)
COMPARED = (operator.lt, operator.le, operator.gt, operator.ge)


class ReckoningTest(unittest.TestCase):
    def alike(self, got, wanted):
        self.assertIsInstance(got, Ratio)
        self.assertEqual((got.number, got.under), (wanted.numerator, wanted.denominator))

    def test_ratio_beside_ratio(self):
        for act in RECKONED:
            for one in PAIRS:
                for other in PAIRS:
                    self.alike(act(Ratio(*one), Ratio(*other)), act(Fraction(*one), Fraction(*other)))

    def test_ratio_beside_integer(self):
        for act in RECKONED:
            for one in PAIRS:
                for other in WHOLE:
                    self.alike(act(Ratio(*one), other), act(Fraction(*one), other))
                    self.alike(act(other, Ratio(*one)), act(other, Fraction(*one)))

    def test_the_contrary_one(self):
        for one in PAIRS:
            self.alike(-Ratio(*one), -Fraction(*one))

    def test_integers_of_400_figures(self):
        one, other = Ratio(BIG, BIG + 1), Ratio(-BIG, 3)
        for act in RECKONED:
            wanted = act(Fraction(BIG, BIG + 1), Fraction(-BIG, 3))
            self.alike(act(one, other), wanted)
            self.alike(act(one, BIG), act(Fraction(BIG, BIG + 1), BIG))
            self.alike(act(BIG, one), act(BIG, Fraction(BIG, BIG + 1)))
        self.assertTrue(other < one < 1)
        self.assertTrue(one < BIG and -BIG < other)
        self.alike(one.divided(BIG), Fraction(1, BIG + 1))

    def test_ratios_stay_as_they_are(self):
        one, other = Ratio(1, 2), Ratio(1, 3)
        one + other, one - other, one * other, -one, one < other, one.divided(other)
        self.assertEqual((one.number, one.under, other.number, other.under), (1, 2, 1, 3))

    def test_refused_operands(self):
        for act in RECKONED + COMPARED:
            for wrong in REFUSED:
                with self.subTest(act=act.__name__, wrong=wrong):
                    with self.assertRaises(TypeError):
                        act(Ratio(1, 2), wrong)
                    with self.assertRaises(TypeError):
                        act(wrong, Ratio(1, 2))
                    with self.assertRaises(TypeError):
                        act(Ratio(3), wrong)

    def test_operators_that_are_not_described(self):
        for act in (operator.truediv, operator.floordiv, operator.mod, operator.pow, operator.and_, operator.or_):
            with self.assertRaises(TypeError):
                act(Ratio(1), Ratio(2))
            with self.assertRaises(TypeError):
                act(Ratio(1), 2)


class ComparingTest(unittest.TestCase):
    def test_ratio_beside_ratio(self):
        for act in COMPARED:
            for one in PAIRS:
                for other in PAIRS:
                    self.assertIs(act(Ratio(*one), Ratio(*other)), act(Fraction(*one), Fraction(*other)))

    def test_ratio_beside_integer(self):
        for act in COMPARED:
            for one in PAIRS:
                for other in WHOLE:
                    self.assertIs(act(Ratio(*one), other), act(Fraction(*one), other))
                    self.assertIs(act(other, Ratio(*one)), act(other, Fraction(*one)))

    def test_sorted(self):
        rows = sorted(Ratio(*pair) for pair in PAIRS)
        self.assertEqual([Fraction(r.number, r.under) for r in rows], sorted(Fraction(*pair) for pair in PAIRS))


class DividedTest(unittest.TestCase):
    def test_by_ratios_and_integers(self):
        for one in PAIRS:
            for other in PAIRS:
                if other[0] != 0:
                    got = Ratio(*one).divided(Ratio(*other))
                    wanted = Fraction(*one) / Fraction(*other)
                    self.assertIsInstance(got, Ratio)
                    self.assertEqual((got.number, got.under), (wanted.numerator, wanted.denominator))
                    self.assertEqual(got * Ratio(*other), Ratio(*one))
            for other in WHOLE:
                if other != 0:
                    got = Ratio(*one).divided(other)
                    wanted = Fraction(*one) / other
                    self.assertEqual((got.number, got.under), (wanted.numerator, wanted.denominator))

    def test_by_name(self):
        self.assertEqual(Ratio(1, 2).divided(other=3), Ratio(1, 6))

    def test_refused(self):
        for wrong in (0, Ratio(0), Ratio(0, 5)) + REFUSED:
            for one in (Ratio(0), Ratio(3, 4)):
                with self.subTest(wrong=wrong):
                    with self.assertRaises(BadRatio) as caught:
                        one.divided(wrong)
                    self.assertIs(caught.exception.value, wrong)


if __name__ == "__main__":
    unittest.main()
