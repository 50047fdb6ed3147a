"""Guarantees (c), (d) and (e) of section 3."""

import random
import unittest

import helper
from helper import lines_of, with_lines
from looseknobs.circuits import Circuit
from looseknobs.keeping import bound, kept
from looseknobs.layers import layers, packed, plain, turned
from looseknobs.likeness import same
from looseknobs.seeing import hangs, hidden, parts, seen
from looseknobs.spreads import spread
from looseknobs.words import Word

SAME = ("same",)


class KnobsByThemselvesTest(unittest.TestCase):
    """Guarantee (c)."""

    def own_knobs(self, rng, wires, knobs):
        words = ["X", "-X", "Z", "Y"] if wires == 1 else ["XI", "-XI", "ZZ", "IZ", "XX", "YX"]
        lines = [f"turn {rng.choice(words)} by 1 {knob}" for knob in knobs] + rng.choice(([], ["h 0"], ["flip " + "X" * wires]))
        rng.shuffle(lines)
        return with_lines(wires, lines)

    def wanted(self, one, other):
        if one.knobs != other.knobs:
            return False
        for letters in helper.first_words(one.wires):
            if helper.back(one.still.text, letters) != helper.back(other.still.text, letters):
                return False
        rows = [{pairs[0][0]: (at, word) for at, (word, pairs) in enumerate(turned(circuit))} for circuit in (one, other)]
        for knob in one.knobs:
            if rows[0][knob][1].text != rows[1][knob][1].text:
                return False
            for more in one.knobs:
                if not helper.passes(rows[0][knob][1].letters, rows[0][more][1].letters):
                    if (rows[0][knob][0] < rows[0][more][0]) != (rows[1][knob][0] < rows[1][more][0]):
                        return False
        return True

    def test_same_exactly_if_told_so(self):
        rng = random.Random(151)
        seen_so = {True: 0, False: 0}
        for _ in range(300):
            wires = rng.randint(1, 2)
            one = self.own_knobs(rng, wires, "abc"[: rng.randint(1, 3)])
            other = self.own_knobs(rng, wires, "abc"[: rng.randint(1, 3)])
            if rng.random() < 0.6:
                lines = lines_of(one)
                rng.shuffle(lines)
                other = with_lines(wires, lines)
            wanted = self.wanted(one, other)
            seen_so[wanted] += 1
            self.assertIs(same(one, other) == SAME, wanted, (one.text, other.text))
        self.assertGreater(min(seen_so.values()), 40)


class NamesTest(unittest.TestCase):
    """Guarantee (d)."""

    def setUp(self):
        self.rng = random.Random(152)
        self.drawn = [circuit for circuit in helper.some_circuits(153, 60, turns=4) if circuit.wires > 1]

    def test_wires(self):
        for circuit in self.drawn:
            places = list(range(circuit.wires))
            self.rng.shuffle(places)
            other, word = helper.exchanged_wires(circuit, places)
            self.assertEqual(hidden(other), hidden(circuit))
            self.assertEqual([parts(other, knob) for knob in circuit.knobs], [parts(circuit, knob) for knob in circuit.knobs])
            self.assertEqual([(word(w.text), p) for w, p in turned(circuit)], [(w.text, p) for w, p in turned(other)])
            self.assertEqual(len(layers(other)[0]), len(layers(circuit)[0]))
            self.assertEqual(packed(other, 2)[0], packed(circuit, 2)[0])
            self.assertEqual(sorted(map(word, kept(circuit))), list(kept(other)))
            told = sorted((word(text), word(found.text)) for text, found in bound(circuit))
            self.assertEqual(told, [(text, found.text) for text, found in bound(other)])
            for letters in helper.all_letters(circuit.wires)[::5]:
                waves = sorted(((word(place), wave) for place, wave in spread(circuit, Word(letters)).terms), key=lambda row: row[0])
                self.assertEqual(tuple(waves), spread(other, Word(word(letters))).terms)
                self.assertEqual(hangs(circuit, Word(letters)), hangs(other, Word(word(letters))))
            changed = circuit * Circuit(f"wires {circuit.wires}\nturn {'X' * circuit.wires} by 1 a")
            self.assertEqual(same(circuit, changed)[0], same(other, helper.exchanged_wires(changed, places)[0])[0])

    def test_knobs(self):
        names = {"a": "z", "b": "turn", "c": "b", "d": "by"}
        for circuit in self.drawn:
            other = helper.renamed(circuit, names)
            self.assertEqual(tuple(sorted(names[knob] for knob in circuit.knobs)), other.knobs)
            self.assertEqual(seen(circuit), seen(other))
            self.assertEqual({names[knob]: parts(circuit, knob) for knob in circuit.knobs}, {knob: parts(other, knob) for knob in other.knobs})
            self.assertEqual(layers(circuit), layers(other))
            self.assertEqual(packed(circuit, 2), packed(other, 2))
            self.assertEqual(kept(circuit), kept(other))
            self.assertEqual(bound(circuit), bound(other))
            self.assertEqual(len(plain(circuit)[0]), len(plain(other)[0]))
            self.assertEqual(plain(circuit)[1], plain(other)[1])
            # The sums of multiples of the rows stay, so all rows hide when exchanged.
            for row in hidden(circuit):
                told = dict(zip([names[knob] for knob in circuit.knobs], row))
                found = {knob: told[knob] for knob in other.knobs}
                self.assertTrue(helper.is_sum(tuple(found.values()), hidden(other)))
            for letters in helper.all_letters(circuit.wires)[::7]:
                told = hangs(circuit, Word(letters))
                self.assertEqual(sorted(names[knob] for knob in told), list(hangs(other, Word(letters))))
                waves = [(place, helper.renamed_wave(wave, names)) for place, wave in spread(circuit, Word(letters)).terms]
                self.assertEqual(tuple(waves), spread(other, Word(letters)).terms)


class WithoutTest(unittest.TestCase):
    """Guarantee (e)."""

    def test_words(self):
        count = 0
        for circuit in helper.some_circuits(154, 60, turns=5, knobs="abcdefghij"):
            for numbers, knobs in helper.groups(circuit):
                less = helper.left_out(circuit, knobs)
                self.assertLessEqual(set(kept(circuit)), set(kept(less)))
                self.assertLessEqual(
                    {(text, word.text) for text, word in bound(circuit)}, {(text, word.text) for text, word in bound(less)})
                for letters in helper.all_letters(circuit.wires)[::5]:
                    self.assertLessEqual(set(hangs(less, Word(letters))), set(hangs(circuit, Word(letters))))
                count += 1
        self.assertGreater(count, 60)

    def test_what_does_the_same_does_so_still(self):
        rng = random.Random(155)
        for circuit in helper.some_circuits(156, 60, turns=4, knobs="abcdefgh"):
            lines = lines_of(circuit)
            for _ in range(2):
                place = rng.randrange(len(lines) + 1)
                pair = [helper.some_turn(rng, circuit.wires, "abcdefgh")]
                pair.append((~with_lines(circuit.wires, pair))[0])
                lines[place:place] = pair
            if sum(line.startswith("turn ") for line in lines) > 6:
                continue
            other = with_lines(circuit.wires, lines)
            self.assertEqual(same(circuit, other), SAME)
            for numbers, knobs in helper.groups(other):
                self.assertEqual(same(helper.left_out(circuit, knobs), helper.left_out(other, knobs)), SAME)


if __name__ == "__main__":
    unittest.main()
