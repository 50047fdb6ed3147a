"""Starts: section 13, without means."""

import random
import unittest

import helper
from helper import refused
from looseknobs.circuits import Circuit
from looseknobs.errors import BadStart, BadWord, OtherSize
from looseknobs.ratios import Ratio
from looseknobs.starts import Start
from looseknobs.words import Word


def start_of(*texts):
    return Start(tuple(Word(text) for text in texts))


def drawn(seed, many):
    """Texts of the words of drawn starts of each size."""
    rng = random.Random(seed)
    return [helper.some_start(rng, 1 + number % 4) for number in range(many)]


class StartTest(unittest.TestCase):
    def test_words_and_wires(self):
        for texts in drawn(201, 40):
            words = tuple(Word(text) for text in texts)
            start = Start(words)
            self.assertIs(type(start.words), tuple)
            self.assertEqual([word.text for word in start.words], texts)
            self.assertIs(type(start.wires), int)
            self.assertEqual(start.wires, len(words[0]))

    def test_each_size(self):
        for texts in (
            ("X",), ("-Y",), ("Z",), ("ZI", "IZ"), ("XX", "ZZ"), ("XX", "-YY"), ("IX", "-YI"), ("XXX", "ZZI", "IZZ"), ("YIY", "IXI", "-IIY"),
            ("ZIII", "IZII", "IIZI", "IIIZ"), ("XXXX", "ZZZZ", "XXII", "ZZII"), ("-IIIY", "XXII", "IIZI", "-ZZII"), ("XZZX", "ZXXZ", "IIXZ", "IIZX"),
        ):
            self.assertEqual(tuple(word.text for word in start_of(*texts).words), texts)

    def test_sign_of_all_words(self):
        for texts in drawn(202, 40):
            start = start_of(*texts)
            signs = helper.products(texts)
            self.assertEqual(len(signs), 2 ** len(texts))
            for letters in helper.all_letters(start.wires):
                wanted = signs.get(letters, 0)
                got = [start.sign_of(Word(letters)), start.sign_of(Word("-" + letters))]
                self.assertEqual(got, [wanted, -wanted], (texts, letters))
                self.assertEqual([type(n) for n in got], [int, int])

    def test_sign_of_all_i(self):
        for texts in (("X",), ("-ZZ", "XX"), ("-IIIY", "XXII", "IIZI", "-ZZII")):
            start = start_of(*texts)
            self.assertEqual(start.sign_of(Word("I" * start.wires)), 1)
            self.assertEqual(start.sign_of(Word("-" + "I" * start.wires)), -1)

    def test_sign_of_refused(self):
        start = start_of("ZI", "IZ")
        for value in helper.any_values() + [start, ("ZZ",), "ZZ"]:
            if not isinstance(value, Word):
                refused(self, BadWord, value, start.sign_of, value)
        for text in ("X", "-Z", "III", "ZZZZ"):
            refused(self, OtherSize, word := Word(text), start.sign_of, word)

    def test_by_name(self):
        self.assertEqual(Start(words=(Word("X"),)), start_of("X"))
        self.assertEqual(start_of("X").sign_of(word=Word("-X")), -1)
        self.assertIs(start_of("X").like(other=start_of("X")), True)


class BadStartTest(unittest.TestCase):
    def refused(self, value):
        refused(self, BadStart, value, Start, value)

    def test_values_of_any_kind(self):
        for value in helper.any_values():
            self.refused(value)
        x, z = Word("XX"), Word("ZZ")
        for value in ([x, z], {"words": (x, z)}, x, "XX", ((x, z),), ([x], [z]), {x.text: x}, Circuit("wires 2"), start_of("XX", "ZZ")):
            self.refused(value)

    def test_how_many(self):
        self.refused(())
        for texts in (("Z",) * 5, ("ZIII", "IZII", "IIZI", "IIIZ", "ZZZZ"), ("ZIII", "IZII", "IIZI", "IIIZ", "IIII")):
            self.refused(tuple(Word(text) for text in texts))
        for texts in (("X", "Z"), ("ZI", "IZ", "ZZ"), ("ZI", "IZ", "II"), ("ZII", "IZI", "IIZ", "ZZZ"), ("X", "X")):
            self.refused(tuple(Word(text) for text in texts))

    def test_fewer_words_than_wires(self):
        for texts in (
            ("ZI",), ("-ZZ",), ("IX",), ("-II",), ("XYZ",), ("ZII", "IZI"), ("-XXX", "ZZI"), ("ZII", "ZII"), ("IIIY",), ("XXXX", "ZZZZ"),
            ("ZIII", "IZII", "IIZI"), ("XZZX", "ZXXZ", "IIXZ"), ("ZIII", "XIII", "IZII"),
        ):
            self.refused(tuple(Word(text) for text in texts))
        for texts in drawn(208, 40):
            words = tuple(Word(text) for text in texts)
            for size in range(1, len(words)):
                self.refused(words[:size])
                self.refused(words[-size:])

    def test_what_is_no_word(self):
        for value in ("ZZ", None, 1, True, ("ZZ",), [Word("ZZ")], Ratio(1), Circuit("wires 2"), start_of("XX", "ZZ"), {}):
            self.refused((value,))
            self.refused((Word("XX"), value))
            self.refused((value, Word("XX")))

    def test_other_sizes(self):
        for texts in (("X", "XX"), ("XX", "X"), ("ZZZ", "XX"), ("ZII", "IZI", "ZZ"), ("ZI", "IZ", "IIZ"), ("IIIZ", "IIZ"), ("Z", "I", "ZZ")):
            self.refused(tuple(Word(text) for text in texts))

    def test_two_that_do_not_pass(self):
        for texts in (("XX", "ZI"), ("XI", "ZX"), ("-XX", "ZI"), ("ZII", "IZI", "IXI"), ("XIII", "IXII", "IIXI", "ZIIX"), ("XY", "YI")):
            self.refused(tuple(Word(text) for text in texts))

    def test_products_that_are_all_i(self):
        for texts in (
            ("I",), ("-I",), ("ZI", "II"), ("-II", "XY"), ("ZZ", "ZZ"), ("ZZ", "-ZZ"), ("ZII", "III", "IZI"), ("XYI", "IIZ", "-XYI"),
            ("XXI", "ZZI", "YYI"), ("XXI", "ZZI", "-YYI"), ("ZII", "IZI", "ZZI"), ("ZII", "IZI", "-ZZI"), ("XXXX", "ZZZZ", "XXII", "IIXX"),
            ("ZIII", "IZII", "ZZII", "IIIZ"), ("ZIII", "IZII", "IIZI", "ZZZI"), ("ZIII", "IZII", "IIZI", "-ZIZI"), ("IIII", "IZII", "IIZI", "IIIZ"),
        ):
            self.refused(tuple(Word(text) for text in texts))

    def test_drawn_ones_with_a_product_more_or_in_the_place_of_a_word(self):
        rng = random.Random(203)
        for texts in drawn(204, 60):
            place = rng.randrange(len(texts))
            others = texts[:place] + texts[place + 1 :]
            made = sorted(helper.products(others)) if others else ["I"]
            for letters in made:
                for more in (letters, "-" + letters):
                    self.refused(tuple(Word(text) for text in texts[:place] + [more] + texts[place + 1 :]))
                    self.refused(tuple(Word(text) for text in texts[:place] + [more] + texts[place:]))


class LikeTest(unittest.TestCase):
    def test_other_sequences_and_products(self):
        rng = random.Random(205)
        for texts in drawn(206, 60):
            start = start_of(*texts)
            self.assertIs(start.like(start), True)
            other = list(texts)
            rng.shuffle(other)
            self.assertIs(start.like(start_of(*other)), True)
            if len(texts) > 1:
                sign, letters = helper.times(helper.signed(other[0]), helper.signed(other[1]))
                made = ("-" if sign < 0 else "") + letters
                self.assertIs(start.like(start_of(made, *other[1:])), True)
                self.assertIs(start.like(start_of("-" + letters if sign > 0 else letters, *other[1:])), False)
            changed = [("-" + other[0]).replace("--", "")] + other[1:]
            self.assertIs(start.like(start_of(*changed)), False)

    def test_drawn_pairs_beside_all_signs(self):
        rows = drawn(207, 40) + [["Z"], ["Z"], ["-Z"], ["ZI", "IZ"], ["ZI", "IX"], ["ZZ", "IZ"], ["ZZ", "ZI"], ["-ZZ", "-ZI"]]
        alike = 0
        for texts in rows:
            for others in rows:
                wanted = len(texts[0].strip("-")) == len(others[0].strip("-")) and helper.products(texts) == helper.products(others)
                self.assertIs(start_of(*texts).like(start_of(*others)), wanted)
                alike += wanted
        self.assertGreater(alike, len(rows))

    def test_values_of_any_kind(self):
        start = start_of("X")
        for value in helper.any_values() + [("X",), (Word("X"),), [start], (start,), start.words]:
            self.assertIs(start.like(value), False)
        self.assertIs(start.like(start_of("XI", "IX")), False)
        self.assertIs(start_of("XI", "IX").like(start_of("XII", "IXI", "IIX")), False)

    def test_equality(self):
        self.assertEqual(start_of("ZI", "IZ"), start_of("ZI", "IZ"))
        self.assertFalse(start_of("ZI", "IZ") != start_of("ZI", "IZ"))
        for texts in (("IZ", "ZI"), ("ZI", "ZZ"), ("Z",), ("-ZI", "IZ"), ("ZII", "IZI", "IIZ")):
            self.assertNotEqual(start_of("ZI", "IZ"), start_of(*texts))
        for value in helper.any_values() + [(Word("X"),), "X", ("X",)]:
            self.assertFalse(start_of("X") == value)
            self.assertTrue(start_of("X") != value)


if __name__ == "__main__":
    unittest.main()
