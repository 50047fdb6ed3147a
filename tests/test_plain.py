"""The one way in which turns and fixed lines are told: section 11, plain."""

import itertools
import random
import unittest

import helper
from looseknobs.circuits import Circuit
from looseknobs.layers import laid, layers, packed, plain
from looseknobs.likeness import same
from looseknobs.words import Word

RNG = random.Random(130)
DRAWN = helper.some_circuits(131, 80, turns=6, fixed=6, knobs=("a", "b")) + [
    Circuit(helper.some_text(RNG, 1 + number % 2, RNG.randint(0, 2), RNG.randint(3, 6), "ab", 2)) for number in range(60)
]


def led_rows(circuit):
    """(letters, form) for each turn, by leading in the test."""
    lines = circuit.text.split("\n")
    rows = []
    for number in circuit.turns:
        fixed = [lines[0]] + [line for line in lines[1 : number + 1] if not line.startswith("turn ")]
        ((letters, sign),) = helper.back("\n".join(fixed), lines[number + 1].split(" ")[1]).items()
        rows.append((letters, tuple(sorted((knob, int(sign) * many) for knob, many in helper.form_of(lines[number + 1])))))
    return rows


def put_together(rows, rng):
    """What is left when no two can be put together any more, whichever are taken first."""
    rows = list(rows)
    while True:
        empty = [at for at, row in enumerate(rows) if not row[1]]
        if empty:
            rows.pop(rng.choice(empty))
            continue
        pairs = [
            (a, b) for b in range(len(rows)) for a in range(b)
            if rows[a][0] == rows[b][0] and all(helper.passes(rows[a][0], row[0]) for row in rows[a + 1 : b])
        ]
        if not pairs:
            return rows
        a, b = rng.choice(pairs)
        many = dict(rows[a][1])
        for knob, more in rows[b][1]:
            many[knob] = many.get(knob, 0) + more
        joined = (rows[a][0], tuple(sorted((knob, n) for knob, n in many.items() if n != 0)))
        keep, gone = rng.choice(((a, b), (b, a)))
        rows[keep] = joined
        rows.pop(gone)


def first_of_all(rows):
    """The first one of all sequences in which any two that do not pass stand as they do."""
    best = None
    for order in itertools.permutations(range(len(rows))):
        right = all(
            a < b or helper.passes(rows[a][0], rows[b][0]) for at, a in enumerate(order) for b in order[at + 1 :]
        )
        told = tuple(rows[at] for at in order)
        if right and (best is None or told < best):
            best = told
    return best


class PlainTest(unittest.TestCase):
    def test_beside_the_description(self):
        rng = random.Random(132)
        fewer = 0
        for circuit in DRAWN:
            rows, words = plain(circuit)
            wanted = put_together(led_rows(circuit), rng)
            self.assertEqual(rows, first_of_all(wanted), circuit.text)
            fewer += len(wanted) < len(circuit.turns)
            self.assertIs(type(rows), tuple)
            self.assertIs(type(words), tuple)
            images = []
            for letters in helper.first_words(circuit.wires):
                ((found, sign),) = helper.back(circuit.still.text, letters).items()
                images.append(("-" if sign < 0 else "") + found)
            self.assertEqual([word.text for word in words], images)
            for word in words:
                self.assertIsInstance(word, Word)
        self.assertGreater(fewer, 30)

    def test_the_same_for_circuits_laid_anew(self):
        for circuit in DRAWN:
            for rows in (layers(circuit)[0], packed(circuit, 1)[1], packed(circuit, 2)[1]):
                self.assertEqual(plain(laid(circuit, rows)), plain(circuit))

    def test_equal_plain_does_the_same(self):
        rng = random.Random(133)
        texts = [helper.some_text(rng, 1, rng.randint(0, 1), rng.randint(0, 2), "a", 1) for _ in range(80)]
        circuits = [Circuit(text.replace(" 3 ", " 1 ").replace(" 4 ", " 1 ")) for text in texts]
        alike = 0
        for one in circuits:
            for other in circuits:
                if plain(one) == plain(other):
                    alike += one.text != other.text
                    self.assertEqual(same(one, other), ("same",))
        self.assertGreater(alike, 50)

    def told(self, *lines):
        return plain(Circuit("\n".join(["wires 2"] + list(lines))))[0]

    def test_what_is_put_together_and_what_goes(self):
        self.assertEqual(self.told(), ())
        self.assertEqual(self.told("turn XX by 1 a", "turn XX by 2 a"), (("XX", (("a", 3),)),))
        self.assertEqual(self.told("turn XX by 4 a", "turn XX by 4 a", "turn -XX by -4 a"), (("XX", (("a", 12),)),))
        self.assertEqual(self.told("turn -XX by 1 b 2 a"), (("XX", (("a", -2), ("b", -1))),))
        self.assertEqual(self.told("turn XX by 1 a", "turn -XX by 1 a"), ())
        self.assertEqual(self.told("turn XX by 1 a", "turn ZZ by 1 b", "turn XX by -1 a"), (("ZZ", (("b", 1),)),))
        self.assertEqual(
            self.told("turn XX by 1 a", "turn ZI by 1 b", "turn XX by -1 a"),
            (("XX", (("a", 1),)), ("ZI", (("b", 1),)), ("XX", (("a", -1),))),
        )
        # What stood between two goes first, and these can be put together then.
        self.assertEqual(self.told("turn XX by 1 a", "turn ZI by 1 b", "turn ZI by -1 b", "turn XX by -1 a"), ())
        self.assertEqual(
            self.told("turn XX by 1 a", "turn ZI by 1 b", "turn IZ by 1 c", "turn ZI by -1 b", "turn XX by 1 b 1 a"),
            (("XX", (("a", 1),)), ("IZ", (("c", 1),)), ("XX", (("a", 1), ("b", 1)))),
        )
        self.assertEqual(self.told("turn XX by 1 a 1 b", "turn XX by 2 c -1 b"), (("XX", (("a", 1), ("c", 2))),))
        self.assertEqual(self.told("turn ZI by 1 a", "h 0", "turn XI by 1 a", "flip ZI", "turn XI by 1 a"), (("ZI", (("a", 1),)),))

    def test_sequences(self):
        self.assertEqual(self.told("turn ZZ by 1 a", "turn XX by 1 a"), (("XX", (("a", 1),)), ("ZZ", (("a", 1),))))
        self.assertEqual(self.told("turn ZI by 1 a", "turn XI by 1 a"), (("ZI", (("a", 1),)), ("XI", (("a", 1),))))
        self.assertEqual(
            self.told("turn ZI by 1 a", "turn XI by 1 a", "turn IX by 1 a"),
            (("IX", (("a", 1),)), ("ZI", (("a", 1),)), ("XI", (("a", 1),))),
        )
        self.assertEqual(
            self.told("turn YI by 1 a", "turn ZZ by 1 c", "turn ZZ by 1 b", "turn IX by 1 a"),
            (("YI", (("a", 1),)), ("ZZ", (("b", 1), ("c", 1))), ("IX", (("a", 1),))),
        )

    def test_words_of_fixed_lines(self):
        self.assertEqual([w.text for w in plain(Circuit("wires 2\nh 0\nturn XX by 1 k\ncx 0 1"))[1]], ["ZX", "XI", "IX", "XZ"])
        self.assertEqual([w.text for w in plain(Circuit("wires 1\nflip X"))[1]], ["X", "-Z"])
        self.assertEqual([w.text for w in plain(Circuit("wires 3"))[1]], ["XII", "ZII", "IXI", "IZI", "IIX", "IIZ"])

    def test_names_and_equal_calls(self):
        self.assertEqual(plain(circuit=DRAWN[5]), plain(DRAWN[5]))


if __name__ == "__main__":
    unittest.main()
