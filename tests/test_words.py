"""Words made, told and compared by ==: sections 2 and 5."""

import itertools
import operator
import unittest

from looseknobs.errors import BadWord
from looseknobs.ratios import Ratio
from looseknobs.words import Word


def texts(wires):
    rows = ["".join(row) for row in itertools.product("IXYZ", repeat=wires)]
    return rows + ["-" + row for row in rows]


class MakingTest(unittest.TestCase):
    def test_all_words_of_one_to_four_wires(self):
        for wires in (1, 2, 3, 4):
            for text in texts(wires):
                word = Word(text)
                self.assertEqual(word.text, text)
                self.assertEqual(word.letters, text.replace("-", ""))
                self.assertEqual(word.sign, -1 if "-" in text else 1)
                self.assertEqual(len(word), wires)

    def test_kinds_of_what_is_told(self):
        for word in (Word("XY"), Word("-XY")):
            self.assertIs(type(word.sign), int)
            self.assertIs(type(word.text), str)
            self.assertIs(type(word.letters), str)

    def test_by_name(self):
        self.assertEqual(Word(text="-XI").text, "-XI")

    def test_the_one_with_the_other_sign(self):
        for wires in (1, 2):
            for text in texts(wires):
                word = Word(text)
                other = -word
                self.assertIsInstance(other, Word)
                self.assertEqual((other.letters, other.sign), (word.letters, -word.sign))
                self.assertEqual(other.text, text[1:] if text.startswith("-") else "-" + text)
                self.assertEqual(word.text, text)
                self.assertEqual(-other, word)

    def test_no_words(self):
        for wrong in (
            "", "-", "--", "--X", "-X-", "X-", "+X", "XYZIX", "-XYZIX", "IIIII", "x", "xy", "Xy", "i", "z", "-x", "A", "W",
            "X Y", " X", "X ", " ", "- X", "X\n", "\nX", "\n", "X\nY", "-\nX", "1", "X1", "X,Y", "'X'", "XZ\t",
            ["X"], ["X", "Y"], [], ("X",), (), {"X": 1}, {}, 0, 1, True, False, None, Word("X"), Word("-XY"), Ratio(1), b"X",
        ):
            with self.subTest(wrong=wrong):
                with self.assertRaises(BadWord) as caught:
                    Word(wrong)
                self.assertIs(caught.exception.value, wrong)

    def test_each_sign_by_itself(self):
        for code in range(128):
            for text in (chr(code), "-" + chr(code), "X" + chr(code), chr(code) + "X"):
                if text.removeprefix("-").strip("IXYZ") == "" and text != "-":
                    self.assertEqual(Word(text).text, text)
                else:
                    with self.assertRaises(BadWord):
                        Word(text)

    def test_all_short_texts(self):
        good = set(texts(1) + texts(2) + texts(3))
        for many in (0, 1, 2, 3):
            for row in itertools.product("IXYZ-x \n", repeat=many):
                text = "".join(row)
                if text in good:
                    self.assertEqual(Word(text).text, text)
                else:
                    with self.assertRaises(BadWord):
                        Word(text)


class EqualityTest(unittest.TestCase):
    def test_words(self):
        rows = texts(1) + texts(2)
        for one in rows:
            for other in rows:
                self.assertIs(Word(one) == Word(other), one == other)
                self.assertIs(Word(one) != Word(other), one != other)

    def test_nothing_else(self):
        for text in ("X", "-X", "II"):
            for other in (text, 1, True, None, (text,), [text], {text: 1}, Ratio(1), text.encode()):
                with self.subTest(text=text, other=other):
                    self.assertIs(Word(text) == other, False)
                    self.assertIs(other == Word(text), False)
                    self.assertIs(Word(text) != other, True)
                    self.assertIs(other != Word(text), True)


class OperatorsTest(unittest.TestCase):
    def test_not_described(self):
        for act in (operator.add, operator.sub, operator.lt, operator.le, operator.gt, operator.ge, operator.mod):
            for other in (Word("X"), 1, "X", None, Ratio(1)):
                with self.assertRaises(TypeError):
                    act(Word("X"), other)
                with self.assertRaises(TypeError):
                    act(other, Word("X"))


if __name__ == "__main__":
    unittest.main()
