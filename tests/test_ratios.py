"""Ratios made, told, compared by == and read from texts: sections 2 and 4."""

import itertools
import re
import unittest
from fractions import Fraction
from math import gcd

from looseknobs.errors import BadRatio, BadText
from looseknobs.ratios import Ratio
from looseknobs.words import Word

BIG = 7 * 10 ** 399 + 3

NO_INTEGERS = (True, False, None, "", "1", "1/2", 1.0, (), (1,), [], [1], {}, Ratio(1), Ratio(1, 2), Word("X"))


def is_told(text):
    """Whether a Ratio has this text, by its form alone."""
    found = re.fullmatch("(-?)(0|[1-9][0-9]*)(/[1-9][0-9]*)?", text)
    if found is None or text == "-0":
        return False
    if found[3] is None:
        return True
    under = int(found[3][1:])
    return under > 1 and gcd(int(found[2]), under) == 1


class MakingTest(unittest.TestCase):
    def told(self, *handed, **named):
        made = Ratio(*handed, **named)
        return made.number, made.under

    def test_least_terms(self):
        self.assertEqual(self.told(6, 4), (3, 2))
        self.assertEqual(self.told(-6, 4), (-3, 2))
        self.assertEqual(self.told(6, -4), (-3, 2))
        self.assertEqual(self.told(-6, -4), (3, 2))
        self.assertEqual(self.told(12, 4), (3, 1))
        self.assertEqual(self.told(12, -4), (-3, 1))

    def test_nought(self):
        for under in (1, -1, 5, -5, BIG):
            self.assertEqual(self.told(0, under), (0, 1))

    def test_all_small_ones(self):
        for number in range(-25, 26):
            for under in range(-25, 26):
                if under != 0:
                    wanted = Fraction(number, under)
                    self.assertEqual(self.told(number, under), (wanted.numerator, wanted.denominator))

    def test_under_left_out(self):
        self.assertEqual(self.told(7), (7, 1))
        self.assertEqual(self.told(-7), (-7, 1))
        self.assertEqual(self.told(number=7), (7, 1))

    def test_by_position_and_by_name(self):
        self.assertEqual(self.told(4, under=6), (2, 3))
        self.assertEqual(self.told(under=6, number=4), (2, 3))

    def test_kinds_of_what_is_told(self):
        made = Ratio(4, -6)
        for told in (made.number, made.under, Ratio(0).number, Ratio(0).under):
            self.assertIs(type(told), int)
        self.assertIs(type(made.text), str)

    def test_integers_of_400_figures(self):
        self.assertEqual(self.told(BIG * 6, BIG * -4), (-3, 2))
        self.assertEqual(self.told(BIG, BIG + 1), (BIG, BIG + 1))

    def refused(self, number, *under):
        with self.assertRaises(BadRatio) as caught:
            Ratio(number, *under)
        value = caught.exception.value
        self.assertEqual((type(value), len(value)), (tuple, 2))
        self.assertIs(value[0], number)
        if under:
            self.assertIs(value[1], under[0])
        else:
            self.assertEqual((type(value[1]), value[1]), (int, 1))

    def test_no_integers(self):
        for wrong in NO_INTEGERS:
            with self.subTest(wrong=wrong):
                self.refused(wrong)
                self.refused(wrong, 1)
                self.refused(wrong, 2)
                self.refused(wrong, 0)
                self.refused(2, wrong)
                self.refused(0, wrong)
                self.refused(wrong, wrong)

    def test_under_nought(self):
        for number in (0, 1, -3, BIG):
            self.refused(number, 0)

    def test_refused_by_name(self):
        for named, value in (({"under": 0, "number": 5}, (5, 0)), ({"number": None}, (None, 1)), ({"number": "1"}, ("1", 1))):
            with self.assertRaises(BadRatio) as caught:
                Ratio(**named)
            self.assertEqual(caught.exception.value, value)


class TellingTest(unittest.TestCase):
    def test_text(self):
        told = [Ratio(3).text, Ratio(-1, 2).text, Ratio(0).text, Ratio(0, -9).text, Ratio(-8, -2).text, Ratio(6, -4).text]
        self.assertEqual(told, ["3", "-1/2", "0", "0", "4", "-3/2"])

    def test_repr(self):
        told = [repr(Ratio(3)), repr(Ratio(-1, 2)), repr(Ratio(0)), repr(Ratio(-6, 2)), repr(Ratio(2, -4))]
        self.assertEqual(told, ["Ratio(3)", "Ratio(-1, 2)", "Ratio(0)", "Ratio(-3)", "Ratio(-1, 2)"])

    def test_repr_within_others(self):
        self.assertEqual(repr((Ratio(1, 2), [Ratio(3)])), "(Ratio(1, 2), [Ratio(3)])")

    def test_too_long_to_be_written(self):
        # Reckoned numbers may be longer than Python would write out.
        long = Ratio(1, 3)
        for _ in range(15):
            long = long * long
        self.assertEqual(long.under, 3 ** (2 ** 15))
        self.assertEqual(long.divided(long), Ratio(1))


class EqualityTest(unittest.TestCase):
    def test_equal(self):
        self.assertTrue(Ratio(1, 2) == Ratio(-2, -4))
        self.assertFalse(Ratio(1, 2) != Ratio(-2, -4))
        self.assertTrue(Ratio(0) == Ratio(0, 7))
        self.assertTrue(Ratio(BIG, 3) == Ratio(2 * BIG, 6))

    def test_unlike(self):
        for one, other in ((Ratio(1, 2), Ratio(-1, 2)), (Ratio(1, 2), Ratio(1, 3)), (Ratio(2), Ratio(3)), (Ratio(2), Ratio(2, 3))):
            self.assertFalse(one == other)
            self.assertTrue(one != other)

    def test_nothing_else(self):
        for number in (0, 1, 3):
            one = Ratio(number)
            for other in (0, 1, 3, True, False, None, "1", one.text, (1,), (number, 1), [number], {}, float(number), Word("X")):
                with self.subTest(number=number, other=other):
                    self.assertIs(one == other, False)
                    self.assertIs(other == one, False)
                    self.assertIs(one != other, True)
                    self.assertIs(other != one, True)

    def test_within_others(self):
        self.assertEqual((Ratio(1, 2), "a"), (Ratio(2, 4), "a"))
        self.assertNotEqual((Ratio(1),), (1,))


class TextsTest(unittest.TestCase):
    def test_there_and_back(self):
        for number in range(-40, 41):
            for under in range(1, 41):
                made = Ratio(number, under)
                read = Ratio.of(made.text)
                self.assertIsInstance(read, Ratio)
                self.assertEqual(read, made)
                self.assertEqual((read.number, read.under), (made.number, made.under))

    def test_long_ones(self):
        for made in (Ratio(BIG), Ratio(-BIG), Ratio(-BIG, BIG + 1), Ratio(1, BIG)):
            self.assertEqual(Ratio.of(made.text), made)

    def test_by_name(self):
        self.assertEqual(Ratio.of(text="-7/3"), Ratio(-7, 3))

    def test_off_an_object(self):
        self.assertEqual(Ratio(5).of("2/3"), Ratio(2, 3))

    def refused(self, wrong):
        with self.subTest(wrong=wrong):
            with self.assertRaises(BadText) as caught:
                Ratio.of(wrong)
            self.assertIs(caught.exception.value, wrong)

    def test_no_texts_of_ratios(self):
        for wrong in (
            "2/4", "3/1", "+3", "-0", "03", "", "-", "/", "1/", "/2", "-/2", "1/0", "0/0", "0/1", "0/5", "-0/5", "1/-2",
            "-1/-2", "--1", "-+1", "+-1", "1-", "1/2/3", "1//2", "1/02", "01/2", "00", "-01", "-3/1", "-2/4", "1/+2",
            " 1", "1 ", "1 /2", "1/ 2", "- 1", "-1 /2", "1 2", "\n1", "1\n", "1/\n2", "1\n/2", "1/2\n", "-\n1", "1\t",
            "a", "x/2", "1/x", "1a", "0x1", "1e3", "1.0", "1_0", "1/1_0", "half", "Ratio(1)", "1,2", "(1)",
        ):
            self.refused(wrong)

    def test_each_sign_by_itself(self):
        for code in range(128):
            for text in (chr(code), "1" + chr(code), "1/2" + chr(code)):
                if is_told(text):
                    self.assertEqual(Ratio.of(text).text, text)
                else:
                    self.refused(text)

    def test_all_short_texts(self):
        for many in range(6):
            for row in itertools.product("-/0126 ", repeat=many):
                text = "".join(row)
                if is_told(text):
                    self.assertEqual(Ratio.of(text).text, text)
                else:
                    with self.assertRaises(BadText) as caught:
                        Ratio.of(text)
                    self.assertIs(caught.exception.value, text)

    def test_signs_beyond(self):
        for wrong in ("\u00b2", "\u0661", "1/\u00b2", "\u22121"):
            self.refused(wrong)

    def test_no_strings(self):
        for wrong in (1, 0, True, False, None, Ratio(1), (), ("1",), ["1"], [], {}, {"1": 1}, Word("X"), b"1"):
            self.refused(wrong)


if __name__ == "__main__":
    unittest.main()
