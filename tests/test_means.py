"""Means from starts, and on which knobs they hang: section 13, and guarantees (d) and (e) for them."""

import random
import unittest

import helper
from helper import refused
from looseknobs.circuits import Circuit
from looseknobs.errors import BadWord, OtherSize
from looseknobs.seeing import hidden
from looseknobs.spreads import spread
from looseknobs.starts import Start, alike_from, hangs_from, hidden_from, mean
from looseknobs.waves import Wave
from looseknobs.words import Word

RISE = Circuit("wires 2\nturn IZ by 1 n\nturn XI by 1 k\ncx 0 1\nturn ZZ by 1 m")
NOUGHT = Start((Word("ZI"), Word("IZ")))


def drawn(seed, many, **told):
    """Circuits, each with the texts of the words of a drawn start."""
    rng = random.Random(seed)
    circuits = helper.some_circuits(seed + 1, many, **told)
    return [(circuit, helper.some_start(rng, circuit.wires)) for circuit in circuits]


def start_of(texts):
    return Start(tuple(Word(text) for text in texts))


class MeanTest(unittest.TestCase):
    def test_beside_spread_and_sign_of(self):
        rng = random.Random(211)
        for circuit, texts in drawn(212, 40):
            start = start_of(texts)
            for letters in helper.all_letters(circuit.wires)[:: 1 + circuit.wires]:
                word = Word(rng.choice(("", "-")) + letters)
                total = Wave(())
                for place, wave in spread(circuit, word).terms:
                    total = total + wave * start.sign_of(Word(place))
                self.assertEqual(mean(circuit, start, word), total)

    def test_line_by_line_at_settings(self):
        rng = random.Random(213)
        for circuit, texts in drawn(214, 60, turns=5):
            angles = helper.some_angles(rng, circuit.knobs, rng.random() < 0.8)
            for _ in range(6):
                text = rng.choice(("", "-")) + rng.choice(helper.all_letters(circuit.wires))
                found = mean(circuit, start_of(texts), Word(text))
                self.assertIsInstance(found, Wave)
                wanted = helper.mean_at(circuit.text, texts, text, angles)
                self.assertEqual(helper.fraction(found.at(helper.setting_of(angles))), wanted, (circuit.text, texts, text))

    def test_told_ones(self):
        turn = Circuit("wires 1\nturn X by 1 k")
        for words, text, wanted in (
            (("Z",), "Z", Wave((((("k", 1),), 1, 0),))),
            (("Z",), "-Z", Wave((((("k", 1),), -1, 0),))),
            (("-Z",), "Z", Wave((((("k", 1),), -1, 0),))),
            (("Z",), "X", Wave(())),
            (("Z",), "Y", Wave((((("k", 1),), 0, -1),))),
            (("X",), "X", Wave((((), 1, 0),))),
            (("X",), "Z", Wave(())),
            (("Z",), "I", Wave((((), 1, 0),))),
            (("Y",), "-I", Wave((((), -1, 0),))),
        ):
            self.assertEqual(mean(turn, start_of(words), Word(text)), wanted, (words, text))

    def test_told_ones_of_two_wires(self):
        circuit = Circuit("wires 2\nh 0\ncx 0 1\nturn ZI by 2 k")
        for words, text, wanted in (
            (("ZI", "IZ"), "XX", Wave((((("k", 2),), 1, 0),))),
            (("ZI", "IX"), "XX", Wave((((("k", 2),), 1, 0),))),
            (("ZI", "IX"), "ZZ", Wave(())),
            (("XI", "IZ"), "ZZ", Wave((((), 1, 0),))),
            (("-ZZ", "XX"), "XX", Wave(())),
            (("-ZZ", "IZ"), "XX", Wave((((("k", 2),), -1, 0),))),
            (("-ZZ", "XX"), "II", Wave((((), 1, 0),))),
        ):
            self.assertEqual(mean(circuit, start_of(words), Word(text)), wanted, (words, text))

    def test_the_largest_circuits(self):
        rng = random.Random(215)
        for seed in range(4):
            text = helper.large_text(seed + 40)
            circuit = Circuit(text)
            texts = helper.some_start(rng, 4)
            angles = helper.some_angles(rng, circuit.knobs)
            for _ in range(4):
                word = helper.some_word(rng, 4)
                found = mean(circuit, start_of(texts), Word(word))
                self.assertEqual(helper.fraction(found.at(helper.setting_of(angles))), helper.mean_at(text, texts, word, angles))
            hidden_from(circuit, start_of(texts))
            self.assertEqual(alike_from(circuit, circuit, start_of(texts)), ("same",))

    def test_refused(self):
        one, three = Start((Word("Z"),)), Start((Word("ZZZ"), Word("IZZ"), Word("IIZ")))
        for act in (mean, hangs_from):
            for start in (one, three):
                for word in (Word("ZZ"), Word("Z"), Word("ZZZ"), None, "ZZ"):
                    refused(self, OtherSize, start, act, RISE, start, word)
            for value in helper.any_values() + ["ZZ", NOUGHT, RISE, ("ZZ",)]:
                if not isinstance(value, Word):
                    refused(self, BadWord, value, act, RISE, NOUGHT, value)
            for text in ("Z", "-ZZZ", "IIII"):
                refused(self, OtherSize, word := Word(text), act, RISE, NOUGHT, word)
        for start in (one, three):
            refused(self, OtherSize, start, hidden_from, RISE, start)

    def test_by_name_and_equal_calls(self):
        for _ in range(2):
            self.assertEqual(mean(word=Word("ZI"), start=NOUGHT, circuit=RISE), mean(RISE, NOUGHT, Word("ZI")))
            self.assertEqual(hangs_from(word=Word("YX"), circuit=RISE, start=NOUGHT), ("k",))
            self.assertEqual(hidden_from(start=NOUGHT, circuit=RISE), hidden_from(RISE, NOUGHT))


class HangsTest(unittest.TestCase):
    def test_beside_means(self):
        for circuit, texts in drawn(216, 40, turns=5):
            for letters in helper.all_letters(circuit.wires)[::3]:
                got = hangs_from(circuit, start_of(texts), Word(letters))
                self.assertIs(type(got), tuple)
                self.assertEqual(got, mean(circuit, start_of(texts), Word(letters)).knobs)

    def test_knobs_that_no_start_sees(self):
        self.assertEqual(hangs_from(RISE, NOUGHT, Word("ZI")), ("k",))
        self.assertEqual(hangs_from(RISE, NOUGHT, Word("ZZ")), ())
        self.assertEqual(hangs_from(RISE, Start((Word("IX"), Word("XI"))), Word("XX")), ())
        self.assertEqual(hangs_from(RISE, Start((Word("IX"), Word("XI"))), Word("IX")), ("m", "n"))


class HiddenFromTest(unittest.TestCase):
    def rounds(self, circuit, start):
        found = set()
        for letters in helper.all_letters(circuit.wires):
            for turns, c, s in mean(circuit, start, Word(letters)).terms:
                many = dict(turns)
                found.add(tuple(many.get(knob, 0) for knob in circuit.knobs))
        return sorted(found)

    def test_beside_a_clearing(self):
        more = 0
        for circuit, texts in drawn(217, 60, turns=5) + drawn(218, 30, turns=4, knobs=("a", "b")):
            start = start_of(texts)
            rows = hidden_from(circuit, start)
            size = len(circuit.knobs)
            self.assertEqual(rows, helper.cleared(self.rounds(circuit, start), size), (circuit.text, texts))
            self.assertIs(type(rows), tuple)
            for row in rows:
                self.assertEqual([type(n) for n in row], [int] * size)
            # What hides from all words hides from a start, too.
            self.assertTrue(all(helper.is_sum(row, rows) for row in hidden(circuit)))
            more += len(rows) > len(hidden(circuit))
        self.assertGreater(more, 10)

    def test_rows_change_no_mean(self):
        rng = random.Random(219)
        for circuit, texts in drawn(220, 30, turns=5):
            for row in hidden_from(circuit, start_of(texts)):
                angles = helper.some_angles(rng, circuit.knobs)
                one = rng.choice(helper.SLANTED)
                turned_on = (helper.Fraction(one[0], one[2]), helper.Fraction(one[1], one[2]))
                other = {
                    knob: helper.added(angles[knob], helper.many_times(turned_on, many)) for knob, many in zip(circuit.knobs, row)
                }
                for letters in helper.all_letters(circuit.wires)[::5]:
                    means = [helper.mean_at(circuit.text, texts, letters, told) for told in (angles, other)]
                    self.assertEqual(means[0], means[1])

    def test_told_ones(self):
        self.assertEqual(hidden_from(RISE, NOUGHT), ((0, 1, 0), (0, 0, 1)))
        self.assertEqual(hidden_from(RISE, Start((Word("ZZ"), Word("-IZ")))), ((0, 1, 0), (0, 0, 1)))
        self.assertEqual(hidden_from(RISE, Start((Word("IX"), Word("XI")))), ((1, 0, 0), (0, 1, -1)))
        self.assertEqual(hidden_from(RISE, Start((Word("XI"), Word("IZ")))), ((1, 0, 0), (0, 1, 0), (0, 0, 1)))
        self.assertEqual(hidden_from(Circuit("wires 2\nh 0"), NOUGHT), ())
        both = Circuit("wires 1\nturn X by 2 a\nturn X by 4 b")
        self.assertEqual(hidden_from(both, Start((Word("Z"),))), ((2, -1),))
        self.assertEqual(hidden_from(both, Start((Word("-X"),))), ((1, 0), (0, 1)))


class NamesTest(unittest.TestCase):
    """Guarantee (d)."""

    def test_wires(self):
        rng = random.Random(221)
        for circuit, texts in drawn(222, 40):
            places = list(range(circuit.wires))
            rng.shuffle(places)
            other, word = helper.exchanged_wires(circuit, places)
            start, changed = start_of(texts), start_of([word(text) for text in texts])
            self.assertEqual(hidden_from(other, changed), hidden_from(circuit, start))
            for letters in helper.all_letters(circuit.wires)[::3]:
                self.assertEqual(mean(other, changed, Word(word(letters))), mean(circuit, start, Word(letters)))
                self.assertEqual(changed.sign_of(Word(word(letters))), start.sign_of(Word(letters)))
            turned = helper.with_lines(circuit.wires, helper.lines_of(circuit)[1:])
            self.assertEqual(
                alike_from(circuit, turned, start)[0], alike_from(other, helper.exchanged_wires(turned, places)[0], changed)[0])

    def test_knobs(self):
        names = {"a": "z", "b": "turn", "c": "b", "d": "by"}
        for circuit, texts in drawn(223, 40):
            other, start = helper.renamed(circuit, names), start_of(texts)
            self.assertEqual(len(hidden_from(other, start)), len(hidden_from(circuit, start)))
            for row in hidden_from(circuit, start):
                told = dict(zip([names[knob] for knob in circuit.knobs], row))
                self.assertTrue(helper.is_sum(tuple(told[knob] for knob in other.knobs), hidden_from(other, start)))
            for letters in helper.all_letters(circuit.wires)[::3]:
                word = Word(letters)
                self.assertEqual(mean(other, start, word), helper.renamed_wave(mean(circuit, start, word), names))
                self.assertEqual(hangs_from(other, start, word), tuple(sorted(names[k] for k in hangs_from(circuit, start, word))))


class WithoutTest(unittest.TestCase):
    """Guarantee (e)."""

    def test_knobs_left_out(self):
        count = 0
        for circuit, texts in drawn(224, 50, turns=5, knobs="abcdefghij"):
            start = start_of(texts)
            for numbers, knobs in helper.groups(circuit):
                less = helper.left_out(circuit, knobs)
                for letters in helper.all_letters(circuit.wires)[::5]:
                    self.assertLessEqual(set(hangs_from(less, start, Word(letters))), set(hangs_from(circuit, start, Word(letters))))
                count += 1
        self.assertGreater(count, 60)

    def test_what_is_alike_is_so_still(self):
        rng = random.Random(225)
        alike = 0
        for circuit, texts in drawn(226, 80, turns=5, fixed=2, knobs="abcdefgh"):
            start = start_of(texts)
            for number in circuit.turns:
                other = circuit.without(number)
                if alike_from(circuit, other, start) == ("same",):
                    for numbers, knobs in helper.groups(circuit):
                        pair = [helper.left_out(told, knobs) for told in (circuit, other)]
                        self.assertEqual(alike_from(*pair, start), ("same",))
                        alike += 1
            pair = [helper.some_turn(rng, circuit.wires, "abcdefgh")]
            pair.append((~helper.with_lines(circuit.wires, pair))[0])
            if len(circuit.turns) < 5:
                other = helper.with_lines(circuit.wires, helper.lines_of(circuit) + pair)
                self.assertEqual(alike_from(circuit, other, start), ("same",))
                for numbers, knobs in helper.groups(other):
                    self.assertEqual(alike_from(helper.left_out(circuit, knobs), helper.left_out(other, knobs), start), ("same",))
        self.assertGreater(alike, 20)


if __name__ == "__main__":
    unittest.main()
