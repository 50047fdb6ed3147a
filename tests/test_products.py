"""Products, bends and passing of words: section 5, worked out anew here."""

import itertools
import unittest

from looseknobs.errors import BadWord, Crossing, OtherSize, Passing
from looseknobs.ratios import Ratio
from looseknobs.words import Word

NO_WORDS = (None, 0, 1, True, "X", "XX", "", ("XX",), ["XX"], {}, Ratio(1), Ratio(1, 2))


def words(wires):
    rows = ["".join(row) for row in itertools.product("IXYZ", repeat=wires)]
    return [Word(sign + row) for sign in ("", "-") for row in rows]


def some_pairs(wires, step):
    return list(itertools.islice(itertools.product(words(wires), repeat=2), 0, None, step))


def all_pairs():
    return some_pairs(1, 1) + some_pairs(2, 1) + some_pairs(3, 7) + some_pairs(4, 101)


def quarter(one, other):
    if one == other or "I" in (one, other):
        return 0
    return 1 if (one, other) in (("X", "Y"), ("Y", "Z"), ("Z", "X")) else -1


def letter(one, other):
    if one == other:
        return "I"
    if "I" in (one, other):
        return one if other == "I" else other
    return ({"X", "Y", "Z"} - {one, other}).pop()


def by_rule(one, other):
    """The sum of quarters, the letters and the product of the signs."""
    rows = list(zip(one.letters, other.letters))
    turned = sum(quarter(a, b) for a, b in rows)
    return turned, "".join(letter(a, b) for a, b in rows), one.sign * other.sign


MATRICES = {
    "I": ((1, 0), (0, 1)),
    "X": ((0, 1), (1, 0)),
    "Y": ((0, -1j), (1j, 0)),
    "Z": ((1, 0), (0, -1)),
}


def beside(one, other):
    return [[a * b for a in row for b in line] for row in one for line in other]


def times(one, other):
    return [[sum(a * b for a, b in zip(row, column)) for column in zip(*other)] for row in one]


def matrix(word, factor=1):
    whole = ((factor * word.sign,),)
    for sign in word.letters:
        whole = beside(whole, MATRICES[sign])
    return [[complex(number) for number in row] for row in whole]


class RuleTest(unittest.TestCase):
    def test_passes(self):
        for one, other in all_pairs():
            wanted = by_rule(one, other)[0] % 2 == 0
            self.assertIs(one.passes(other), wanted)

    def test_products(self):
        for one, other in all_pairs():
            turned, letters, sign = by_rule(one, other)
            if turned % 2 == 0:
                made = one * other
                self.assertIsInstance(made, Word)
                self.assertEqual((made.letters, made.sign), (letters, sign if turned % 4 == 0 else -sign))
            else:
                with self.assertRaises(Crossing) as caught:
                    one * other
                self.assertIs(caught.exception.value, other)

    def test_bends(self):
        for one, other in all_pairs():
            turned, letters, sign = by_rule(one, other)
            if turned % 2 != 0:
                made = one.bent(other)
                self.assertIsInstance(made, Word)
                self.assertEqual((made.letters, made.sign), (letters, sign if (turned + 1) % 4 == 0 else -sign))
            else:
                with self.assertRaises(Passing) as caught:
                    one.bent(other)
                self.assertIs(caught.exception.value, other)

    def test_beside_matrices(self):
        for one, other in some_pairs(1, 1) + some_pairs(2, 5) + some_pairs(3, 401):
            product = times(matrix(one), matrix(other))
            if one.passes(other):
                self.assertEqual(matrix(one * other), product)
                self.assertEqual(one * other, other * one)
            else:
                self.assertEqual(matrix(one.bent(other), -1j), product)
                self.assertEqual(one.bent(other), -other.bent(one))

    def test_words_stay_as_they_are(self):
        one, other = Word("-XY"), Word("YX")
        one * other, one.passes(other)
        one.bent(Word("ZI"))
        self.assertEqual((one.text, one.letters, one.sign, other.text), ("-XY", "XY", -1, "YX"))


class RefusedTest(unittest.TestCase):
    def raised(self, kind, value, act, *handed, **named):
        with self.assertRaises(kind) as caught:
            act(*handed, **named)
        self.assertIs(type(caught.exception), kind)
        self.assertIs(caught.exception.value, value)

    def test_other_sizes(self):
        rows = [Word(text) for text in ("X", "Z", "-I", "XX", "ZI", "-YIX", "III", "ZZZZ", "IIIX")]
        for one in rows:
            for other in rows:
                if len(one) != len(other):
                    self.raised(OtherSize, other, one.bent, other)
                    self.raised(OtherSize, other, one.passes, other)
                    self.raised(OtherSize, other, lambda a=one, b=other: a * b)

    def test_no_words(self):
        for one in (Word("X"), Word("-XZ")):
            for wrong in NO_WORDS:
                with self.subTest(one=one.text, wrong=wrong):
                    self.raised(BadWord, wrong, one.bent, wrong)
                    self.raised(BadWord, wrong, one.passes, wrong)
                    with self.assertRaises(TypeError):
                        one * wrong
                    with self.assertRaises(TypeError):
                        wrong * one

    def test_size_is_asked_for_first(self):
        # ZX beside Z: cut to one wire both pass, X beside ZZ: cut they do not.
        self.raised(OtherSize, word := Word("Z"), Word("ZX").bent, word)
        self.raised(OtherSize, word := Word("ZZ"), lambda: Word("X") * word)

    def test_the_very_value(self):
        one, same, unlike = Word("XY"), Word("XY"), Word("XZ")
        self.raised(Passing, same, one.bent, same)
        self.raised(Passing, one, one.bent, one)
        self.raised(Crossing, unlike, lambda: one * unlike)

    def test_by_name(self):
        self.assertEqual(Word("X").bent(other=Word("Y")), Word("-Z"))
        self.assertIs(Word("X").passes(other=Word("Y")), False)
        self.raised(BadWord, None, Word("X").bent, other=None)
        self.raised(BadWord, None, Word("X").passes, other=None)


if __name__ == "__main__":
    unittest.main()
