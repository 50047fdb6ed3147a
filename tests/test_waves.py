"""Waves made, told and compared: sections 2 and 6."""

import unittest

import helper
from helper import refused
from looseknobs.errors import BadTerms
from looseknobs.ratios import Ratio
from looseknobs.waves import Wave

K, M = (("k", 1),), (("m", 1),)
BOTH = (("k", 1), ("m", -2))


class MakingTest(unittest.TestCase):
    def test_terms_come_out_ascending(self):
        rows = (
            ((), 3, 0), ((("a", 1),), 0, 1), ((("a", 1), ("b", -1)), 1, 2), ((("a", 1), ("b", 1)), 1, 0),
            ((("a", 2),), Ratio(1, 2), 0), ((("ab", 1),), 0, -1), ((("b", 1),), 1, 1),
        )
        wanted = tuple((turns, helper.ratio(helper.fraction(c)), helper.ratio(helper.fraction(s))) for turns, c, s in rows)
        for told in (rows, rows[::-1], rows[3:] + rows[:3], rows[1::2] + rows[::2]):
            wave = Wave(told)
            self.assertEqual(wave.terms, wanted)
            self.assertEqual(wave.knobs, ("a", "ab", "b"))
            self.assertEqual(len(wave), 7)
            self.assertEqual(wave, Wave(rows))

    def test_numbers_are_told_as_ratios(self):
        for c, s in ((1, 0), (0, 1), (Ratio(1, 2), 3), (-2, Ratio(0)), (Ratio(0), Ratio(4, 6))):
            ((turns, cosine, sine),) = Wave(((K, c, s),)).terms
            self.assertIsInstance(cosine, Ratio)
            self.assertIsInstance(sine, Ratio)
            self.assertEqual((turns, helper.fraction(cosine), helper.fraction(sine)), (K, helper.fraction(c), helper.fraction(s)))
        self.assertEqual(Wave((((), 5, 0),)).terms, (((), Ratio(5), Ratio(0)),))
        self.assertEqual(Wave((((), 5, Ratio(0)),)).terms, (((), Ratio(5), Ratio(0)),))

    def test_kinds(self):
        wave = Wave(((BOTH, 1, 0),))
        self.assertIs(type(wave.terms), tuple)
        self.assertIs(type(wave.knobs), tuple)
        self.assertEqual(wave.knobs, ("k", "m"))
        self.assertEqual((Wave(()).terms, Wave(()).knobs, len(Wave(()))), ((), (), 0))

    def test_names_of_one_and_eight_letters(self):
        for name in ("a", "z", "abcdefgh", "turn"):
            self.assertEqual(Wave(((((name, 1),), 1, 0),)).knobs, (name,))

    def test_great_numbers(self):
        big = 10 ** 399 + 7
        wave = Wave((((("k", 999999),), big, Ratio(1, big)),))
        self.assertEqual(wave.terms, (((("k", 999999),), Ratio(big), Ratio(1, big)),))

    def test_by_name(self):
        self.assertEqual(Wave(terms=((K, 1, 0),)), Wave(((K, 1, 0),)))

    def test_what_is_handed_in_stays(self):
        rows = ((M, 1, 0), (K, 0, 1))
        self.assertEqual(Wave(rows).terms[0][0], K)
        self.assertEqual(rows, ((M, 1, 0), (K, 0, 1)))


class NoTermsTest(unittest.TestCase):
    def all_refused(self, rows):
        for row in rows:
            with self.subTest(row=row):
                refused(self, BadTerms, row, Wave, row)

    def test_values_of_any_kind(self):
        self.all_refused([value for value in helper.any_values() if value != ()])

    def test_lists_in_place_of_tuples(self):
        self.all_refused([
            [], [(K, 1, 0)], ([K, 1, 0],), (([("k", 1)], 1, 0),), (((["k", 1],), 1, 0),), ((K, 1, 0), [M, 1, 0]),
            {K: (1, 0)}, ({},), (([], 1, 0),), (({}, 1, 0),),
        ])

    def test_lengths(self):
        self.all_refused([
            ((),), ((K,),), ((K, 1),), ((K, 1, 0, 0),), (K, 1, 0), K, (((("k",),), 1, 0),), (((("k", 1, 1),), 1, 0),),
            ((((),), 1, 0),), ((("k", 1), 1, 0),), (("k", 1, 0),),
        ])

    def test_turns(self):
        for turns in (
            (("k", 1), ("k", 1)), (("k", 1), ("k", -1)), (("m", 1), ("k", 1)), (("b", 1), ("ab", 1)), (("k", 0),),
            (("k", 1), ("m", 0)), (("k", -1),), (("k", -1), ("m", 2)), (("k", True),), (("k", "1"),), (("k", None),),
            (("k", Ratio(1)),), (("k", (1,)),), (("k", 1), 5), (5,), None, 5, "k", "", (None,), (("k", 1), ("l", 1), ("k", 1)),
        ):
            self.all_refused([((turns, 1, 0),), (((), 1, 0), (turns, 1, 0)), ((turns, 1, 0), (K, 1, 0))])

    def test_names(self):
        for name in ("", "abcdefghi", "K", "kK", "k1", "k ", " k", "k_", "\u00e9", "k\n", "-k", None, 1, True, ("k",), ["k"], Ratio(1)):
            self.all_refused([((((name, 1),), 1, 0),)])

    def test_numbers(self):
        for number in (True, False, "1", "", None, (1,), [1], {}, 1.0, Wave(()), Wave((((), 1, 0),))):
            self.all_refused([((K, number, 1),), ((K, 1, number),), (((), number, 0),), (((), 1, number),)])

    def test_both_numbers_0(self):
        for nought in (0, Ratio(0), Ratio(0, 7)):
            for other in (0, Ratio(0)):
                self.all_refused([((K, nought, other),), (((), nought, other),), ((M, 1, 0), (K, nought, other))])

    def test_a_sine_without_turns(self):
        for sine in (1, -1, Ratio(1, 2)):
            self.all_refused([(((), 1, sine),), (((), 0, sine),), (((), sine, sine),)])

    def test_turns_twice(self):
        self.all_refused([
            ((K, 1, 0), (K, 1, 0)), ((K, 1, 0), (K, 0, 1)), ((K, 1, 0), (M, 1, 0), (K, -1, 0)), (((), 1, 0), ((), 2, 0)),
            ((BOTH, 1, 0), (K, 1, 0), (BOTH, 1, 1)),
        ])


class EqualityTest(unittest.TestCase):
    def test_equal_and_unlike_waves(self):
        waves = [
            Wave(()), Wave((((), 1, 0),)), Wave((((), 2, 0),)), Wave(((K, 1, 0),)), Wave(((K, 0, 1),)), Wave(((M, 1, 0),)),
            Wave(((K, Ratio(1, 2), 0),)), Wave(((K, 1, 0), (M, 1, 0))), Wave(((BOTH, 1, 0),)), Wave((((("k", 2),), 1, 0),)),
        ]
        for at, one in enumerate(waves):
            for other, two in enumerate(waves):
                self.assertIs(one == two, at == other)
                self.assertIs(one != two, at != other)
        self.assertEqual(Wave(((K, 1, 0), (M, 2, 0))), Wave(((M, Ratio(2), Ratio(0)), (K, Ratio(3, 3), 0))))

    def test_equal_nothing_else(self):
        for wave in (Wave(()), Wave((((), 1, 0),)), Wave(((K, 1, 0),))):
            for other in helper.any_values() + [wave.terms, 0, 1]:
                if not isinstance(other, Wave):
                    self.assertIs(wave == other, False)
                    self.assertIs(other == wave, False)
                    self.assertIs(wave != other, True)


if __name__ == "__main__":
    unittest.main()
