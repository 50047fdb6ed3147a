"""What Waves are at settings, what is left of them, and their slopes: section 6 and guarantee (g)."""

import random
import unittest
from fractions import Fraction

import helper
from helper import (
    NO_SETTINGS, by_hand, fraction, ratio, refused, refused_about, some_rows, terms_of, value, wave_of,
)
from looseknobs.errors import BadName, BadSetting, Loose
from looseknobs.ratios import Ratio
from looseknobs.waves import Wave

KNOBS = ("a", "b", "cc")
HALF = Ratio(1, 2)


def put_by_hand(rows, angles):
    made = []
    for form, c, s in rows:
        cosine, sine = helper.angle_of([row for row in form if row[0] in angles], angles)
        left = tuple(row for row in form if row[0] not in angles)
        made.append((left, c * cosine + s * sine, s * cosine - c * sine))
    return by_hand(made)


class AtTest(unittest.TestCase):
    def test_numbers(self):
        rng = random.Random(66)
        for _ in range(300):
            rows = some_rows(rng)
            angles = helper.some_angles(rng, KNOBS, rng.random() < 0.7)
            got = wave_of(rows).at(helper.setting_of(angles))
            self.assertIsInstance(got, Ratio)
            self.assertEqual(fraction(got), value(rows, angles))

    def test_multiples_of_several_figures(self):
        for many in (7, 24, 99, 123, 1000):
            for sign in (1, -1):
                turns = (("a", 1), ("k", sign * many))
                wave = Wave(((turns, 2, Ratio(1, 3)),))
                angles = {"a": (Fraction(5, 13), Fraction(12, 13)), "k": (Fraction(3, 5), Fraction(-4, 5))}
                cosine, sine = helper.angle_of(turns, angles)
                self.assertEqual(fraction(wave.at(helper.setting_of(angles))), 2 * cosine + sine / 3)

    def test_six_figures_at_quarters(self):
        for many in (999997, 999998, 999999, 100000):
            for place, (c, s) in enumerate(helper.QUARTERS):
                wave = Wave((((("k", many),), 1, 0), ((("m", 1),), 0, 1)))
                wanted = helper.QUARTERS[place * many % 4][0] - 1
                self.assertEqual(wave.at((("k", c, s), ("m", 0, -1))), Ratio(wanted))

    def test_settings_with_integers(self):
        wave = Wave((((("k", 1),), 3, 5),))
        self.assertEqual([wave.at((("k", c, s),)) for c, s in helper.QUARTERS], [Ratio(n) for n in (3, 5, -3, -5)])
        self.assertEqual(wave.at((("k", Ratio(0), -1),)), Ratio(-5))

    def test_further_knobs_change_nothing(self):
        wave = Wave((((("k", 2),), 1, 1),))
        setting = (("a", 1, 0), ("k", Ratio(3, 5), Ratio(4, 5)), ("z", 0, 1))
        self.assertEqual(wave.at(setting), wave.at(setting[1:2]))
        self.assertEqual(Wave((((), 4, 0),)).at(setting), Ratio(4))
        self.assertEqual(Wave((((), 4, 0),)).at(()), Ratio(4))
        self.assertEqual(Wave(()).at(()), Ratio(0))

    def test_great_numbers(self):
        n = 10 ** 199 + 3
        c, s = Fraction(1 - n * n, 1 + n * n), Fraction(2 * n, 1 + n * n)
        wave = Wave((((("k", 3),), Ratio(1, n), n),))
        cosine, sine = helper.many_times((c, s), 3)
        self.assertEqual(fraction(wave.at((("k", ratio(c), ratio(s)),))), cosine / n + sine * n)

    def test_by_name(self):
        self.assertEqual(Wave((((("k", 1),), 1, 0),)).at(setting=(("k", 0, 1),)), Ratio(0))

    def test_loose_tells_the_first_knob(self):
        wave = Wave((((("b", 1), ("z", 1)), 1, 0), ((("m", 1),), 1, 0)))
        every = {knob: (knob, 1, 0) for knob in ("a", "b", "m", "z")}
        for knobs, wanted in (("", "b"), ("a", "b"), ("b", "m"), ("bm", "z"), ("mz", "b"), ("bz", "m"), ("abm", "z")):
            refused_about(self, Loose, wanted, wave.at, tuple(every[knob] for knob in knobs))
        self.assertEqual(wave.at(tuple(every[knob] for knob in "bmz")), Ratio(2))

    def test_no_settings(self):
        for wave in (Wave(()), Wave((((("k", 1),), 1, 0),)), Wave((((("x", 1),), 1, 0),))):
            for wrong in NO_SETTINGS + [value for value in helper.any_values() if value != ()]:
                with self.subTest(wrong=wrong):
                    refused(self, BadSetting, wrong, wave.at, wrong)
                    refused(self, BadSetting, wrong, wave.put, wrong)


class PutTest(unittest.TestCase):
    def test_some_all_and_other_knobs(self):
        rng = random.Random(67)
        for _ in range(300):
            rows = some_rows(rng)
            knobs = [knob for knob in KNOBS + ("zz", "b") if rng.random() < 0.5]
            angles = helper.some_angles(rng, knobs, rng.random() < 0.7)
            got = wave_of(rows).put(helper.setting_of(angles))
            self.assertIsInstance(got, Wave)
            self.assertEqual(got, Wave(got.terms))
            self.assertEqual(terms_of(got), put_by_hand(rows, angles))
            self.assertFalse(set(got.knobs) & set(knobs))

    def test_put_then_at(self):
        rng = random.Random(68)
        for _ in range(100):
            wave = wave_of(some_rows(rng))
            setting = helper.setting_of(helper.some_angles(rng, KNOBS))
            self.assertEqual(wave.put(setting[:1]).put(setting[1:]), wave.put(setting))
            self.assertEqual(wave.put(setting[1:2]).at(setting), wave.at(setting))
            self.assertEqual(wave.put(setting), Wave(()) + wave.at(setting))
            self.assertEqual(wave.put(()), wave)

    def test_what_is_left_is_told_in_the_one_way(self):
        wave = Wave((((("a", 1), ("b", -1)), 0, 1), ((("a", 1), ("b", 1)), 0, 1), ((("a", 1),), 1, 0)))
        self.assertEqual(wave.put((("a", 1, 0),)).terms, (((), Ratio(1), Ratio(0)),))
        self.assertEqual(wave.put((("a", 0, 1),)).terms, (((("b", 1),), Ratio(2), Ratio(0)),))
        self.assertEqual(Wave((((("a", 1), ("b", -1)), 1, 3),)).put((("a", 1, 0),)).terms, (((("b", 1),), Ratio(1), Ratio(-3)),))
        self.assertEqual(Wave((((("a", 2),), 1, 0), ((), 1, 0))).put((("a", 0, 1),)).terms, ())

    def test_by_name(self):
        self.assertEqual(Wave((((("k", 1),), 1, 0),)).put(setting=(("k", 0, 1),)), Wave(()))


class SlopeTest(unittest.TestCase):
    def test_each_kind_of_term(self):
        turns = (("k", 3), ("m", -2))
        wave = Wave(((turns, 5, 7), ((), 4, 0), ((("z", 1),), 1, 1)))
        self.assertEqual(wave.slope("k").terms, ((turns, Ratio(21), Ratio(-15)),))
        self.assertEqual(wave.slope("m").terms, ((turns, Ratio(-14), Ratio(10)),))
        self.assertEqual(wave.slope("z").terms, (((("z", 1),), Ratio(1), Ratio(-1)),))
        self.assertEqual(wave.slope("other").terms, ())
        self.assertEqual(Wave((((("k", 1),), Ratio(1, 2), 0),)).slope("k").terms, (((("k", 1),), Ratio(0), Ratio(-1, 2)),))
        self.assertEqual(Wave((((("k", 1),), 0, Ratio(1, 2)),)).slope("k").terms, (((("k", 1),), Ratio(1, 2), Ratio(0)),))
        self.assertEqual(Wave(()).slope("k").terms, ())

    def test_of_sums_and_products(self):
        rng = random.Random(69)
        for _ in range(100):
            one, two = wave_of(some_rows(rng)), wave_of(some_rows(rng))
            for knob in KNOBS:
                self.assertEqual((one + two).slope(knob), one.slope(knob) + two.slope(knob))
                self.assertEqual((one * two).slope(knob), one.slope(knob) * two + one * two.slope(knob))

    def test_guarantee_g(self):
        rng = random.Random(70)
        for _ in range(100):
            rows = [row for row in some_rows(rng, 7) if dict(row[0]).get("b", 0) in (-1, 0, 1)]
            wave = wave_of(rows)
            angles = helper.some_angles(rng, KNOBS)
            on = dict(angles, b=helper.added(angles["b"], (Fraction(0), Fraction(1))))
            back = dict(angles, b=helper.added(angles["b"], (Fraction(0), Fraction(-1))))
            wanted = (wave.at(helper.setting_of(on)) - wave.at(helper.setting_of(back))) * HALF
            self.assertEqual(wave.slope("b").at(helper.setting_of(angles)), wanted)

    def test_no_names(self):
        wave = Wave((((("k", 1),), 1, 0),))
        names = ("k", "a text\nof lines", "same")
        wrong = [value for value in helper.any_values() if value not in ("k", "same")]
        self.assertEqual(wave.slope(names[0]).terms[0][0], (("k", 1),))
        for value in wrong + ["", "abcdefghi", "K", "k1", "k ", "\u00e9", ("k",), ["k"]]:
            with self.subTest(value=value):
                refused(self, BadName, value, wave.slope, value)
                refused(self, BadName, value, Wave(()).slope, value)

    def test_by_name(self):
        self.assertEqual(Wave((((("k", 1),), 1, 0),)).slope(knob="m"), Wave(()))


if __name__ == "__main__":
    unittest.main()
