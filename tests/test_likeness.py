"""Alike or not: section 9 and guarantee (a)."""

import itertools
import random
import unittest
from fractions import Fraction

import helper
from helper import refused
from looseknobs.circuits import Circuit
from looseknobs.errors import OtherSize
from looseknobs.likeness import same, shows_same
from looseknobs.ratios import Ratio
from looseknobs.words import Word

SAME = ("same",)


def with_lines(circuit, lines):
    return Circuit("\n".join([f"wires {circuit.wires}"] + list(lines)))


def lines_of(circuit):
    return circuit.text.split("\n")[1:]


def knobs_of(*circuits):
    return tuple(sorted({knob for circuit in circuits for knob in circuit.knobs}))


def alike_at(one, other, angles):
    """Whether both lead all words back alike there: X and Z at each wire tell it of all."""
    words = helper.first_words(one.wires)
    return all(helper.back(one.text, word, angles) == helper.back(other.text, word, angles) for word in words)


class LikenessTest(unittest.TestCase):
    def is_same(self, one, other):
        self.assertEqual(same(one, other), SAME, (one.text, other.text))
        self.assertTrue(shows_same(one, other, SAME))

    def is_apart(self, one, other):
        """What is told apart is parted at the told setting, by a going of the test's own."""
        told = same(one, other)
        self.assertIs(type(told), tuple)
        self.assertEqual(len(told), 3, (one.text, other.text))
        name, setting, word = told
        self.assertEqual(name, "apart")
        helper.check_setting(self, setting, knobs_of(one, other))
        self.assertIsInstance(word, Word)
        self.assertEqual(len(word), one.wires)
        angles = helper.angles_of(setting)
        self.assertNotEqual(helper.back(one.text, word.text, angles), helper.back(other.text, word.text, angles))
        self.assertTrue(shows_same(one, other, told))
        self.assertFalse(shows_same(one, other, SAME))

    def is_right(self, one, other, rng):
        """Whatever is told is so; returns whether they are the same."""
        if same(one, other) != SAME:
            self.is_apart(one, other)
            return False
        for _ in range(3):
            self.assertTrue(alike_at(one, other, helper.some_angles(rng, knobs_of(one, other))), (one.text, other.text))
        self.assertTrue(shows_same(one, other, SAME))
        return True


class SameTest(LikenessTest):
    def test_with_itself(self):
        for circuit in helper.some_circuits(91, 40, turns=6):
            self.is_same(circuit, circuit)
            self.is_same(circuit, Circuit(circuit.text))

    def test_lines_put_in_with_their_contraries(self):
        rng = random.Random(92)
        for circuit in helper.some_circuits(92, 60, turns=4):
            lines = lines_of(circuit)
            for _ in range(3):
                place = rng.randrange(len(lines) + 1)
                line = helper.some_fixed(rng, circuit.wires)
                lines[place:place] = [line, (~with_lines(circuit, [line]))[0]]
            self.is_same(circuit, with_lines(circuit, lines))
            turn = helper.some_turn(rng, circuit.wires, "xyz")
            lines[place:place] = [turn, (~with_lines(circuit, [turn]))[0]]
            self.is_same(with_lines(circuit, lines), circuit)

    def test_neighbours_that_pass_exchanged(self):
        rng = random.Random(93)
        seen = 0
        for circuit in helper.some_circuits(93, 300, turns=6, fixed=2):
            lines = lines_of(circuit)
            for at in range(len(lines) - 1):
                pair = [line.split(" ") for line in lines[at : at + 2]]
                if all(row[0] in ("turn", "flip", "quarter") for row in pair):
                    words = [helper.signed(row[1])[1] for row in pair]
                    changed = lines[:at] + [lines[at + 1], lines[at]] + lines[at + 2 :]
                    if helper.passes(*words):
                        self.is_same(circuit, with_lines(circuit, changed))
                        seen += 1
                    elif all(row[0] == "turn" for row in pair):
                        self.is_right(circuit, with_lines(circuit, changed), rng)
        self.assertGreater(seen, 50)

    def test_lines_led_along(self):
        rng = random.Random(94)
        for _ in range(150):
            wires = rng.randint(1, 4)
            circuit = Circuit(f"wires {wires}")
            fixed = helper.some_fixed(rng, wires)
            turn = helper.some_turn(rng, wires, "abc")
            word = turn.split(" ")[1]
            ((letters, sign),) = helper.back(f"wires {wires}\n{fixed}", word).items()
            led = turn.replace(word, ("-" if sign < 0 else "") + letters, 1)
            rest = [helper.some_turn(rng, wires, "abc")]
            self.is_same(with_lines(circuit, [fixed, turn] + rest), with_lines(circuit, [led, fixed] + rest))
            self.is_same(with_lines(circuit, rest + [fixed, turn]), with_lines(circuit, rest + [led, fixed]))

    def test_turns_about_one_word_put_together(self):
        for one, other in (
            (["turn XY by 1 a", "turn XY by 2 a"], ["turn XY by 3 a"]),
            (["turn XY by 1 a", "turn -XY by 1 b"], ["turn XY by 1 a -1 b"]),
            (["turn XY by 2 a 1 b", "turn XY by -1 b"], ["turn -XY by -2 a"]),
            (["turn XY by 1 a", "turn XY by -1 a"], []),
            (["turn XY by 1 a", "turn YX by 1 c", "turn XY by -1 a"], ["turn YX by 1 c"]),
            (["turn XY by 1 a", "turn -XY by 1 a"], ["h 0", "h 0"]),
            (["turn ZI by 1 a", "flip XI"], ["flip XI", "turn ZI by -1 a"]),
            (["turn IZ by 1 b 2 a"], ["turn IZ by 2 a 1 b"]),
        ):
            self.is_same(Circuit("\n".join(["wires 2"] + one)), Circuit("\n".join(["wires 2"] + other)))

    def test_fixed_lines(self):
        for one, other in (
            ("h 0\nh 0", None), ("cx 0 1\ncx 0 1", None), ("cz 0 1", "cz 1 0"), ("swap 0 1", "swap 1 0"),
            ("cx 0 1", "h 1\ncz 0 1\nh 1"), ("h 0\nh 1\ncx 0 1\nh 0\nh 1", "cx 1 0"), ("flip XY", "flip -XY"),
            ("quarter XI\nquarter XI", "flip XI"), ("quarter -ZZ", "quarter ZZ\nflip ZZ"), ("flip XI\nflip ZI", "flip YI"),
            ("quarter ZI\nquarter ZI\nquarter ZI", "quarter -ZI"), ("cx 0 1\nflip XI", "flip XX\ncx 0 1"),
        ):
            first, second = ("\n".join(["wires 2"] + ([text] if text else [])) for text in (one, other))
            self.is_same(Circuit(first), Circuit(second))

    def test_the_largest_circuits(self):
        for seed in range(4):
            circuit = Circuit(helper.large_text(seed))
            self.is_same(circuit, circuit)
            shorter = circuit.without(circuit.turns[seed])
            self.is_apart(circuit, shorter)
            self.is_apart(shorter, circuit)
            self.is_apart(circuit, ~circuit)


class ApartTest(LikenessTest):
    def test_order(self):
        one = Circuit("wires 1\nturn X by 1 k\nturn Z by 1 m")
        other = Circuit("wires 1\nturn Z by 1 m\nturn X by 1 k")
        self.is_apart(one, other)
        quarters = (("k", 0, 1), ("m", 0, 1))
        for text in ("X", "Y", "-Z"):
            self.assertTrue(shows_same(one, other, ("apart", quarters, Word(text))))

    def test_one_thing_otherwise(self):
        rng = random.Random(95)
        parted = 0
        for circuit in helper.some_circuits(95, 150, turns=5):
            lines = lines_of(circuit)
            for _ in range(2):
                if not lines:
                    continue
                at = rng.randrange(len(lines))
                changed = list(lines)
                name, rest = lines[at].split(" ", 1)
                kind = rng.randrange(4)
                if kind == 0:
                    changed[at : at + 1] = []
                elif kind == 1 and name in ("turn", "quarter", "flip"):
                    changed[at] = name + " " + (rest[1:] if rest.startswith("-") else "-" + rest)
                elif kind == 2 and name in ("turn", "quarter", "flip"):
                    word = rest.split(" ")[0]
                    changed[at] = lines[at].replace(word, helper.some_word(rng, circuit.wires), 1)
                elif name == "turn":
                    many = rest.split(" ")[2]
                    changed[at] = lines[at].replace(f"by {many} ", f"by {rng.choice((1, 2, 3, 4, -1, -2, -3, -4))} ", 1)
                else:
                    changed[at] = helper.some_fixed(rng, circuit.wires)
                parted += not self.is_right(circuit, with_lines(circuit, changed), rng)
        self.assertGreater(parted, 150)

    def test_drawn_pairs(self):
        rng = random.Random(96)
        for wires in (1, 2):
            seen = {True: 0, False: 0}
            for _ in range(250):
                texts = [helper.some_text(rng, wires, rng.randint(0, 2), rng.randint(0, 2), "a", 1) for _ in range(2)]
                seen[self.is_right(Circuit(texts[0]), Circuit(texts[1]), rng)] += 1
            self.assertGreater(seen[False], 100)
        self.assertGreater(seen[True], 3)

    def test_alike_at_all_quarters_and_yet_apart(self):
        pairs = (
            ("wires 1\nturn X by 4 k", "wires 1"),
            ("wires 2\nturn XY by 4 k 4 m", "wires 2\nturn ZI by 4 k"),
            ("wires 1\nturn X by 2 k\nturn Z by 2 m", "wires 1\nturn Z by 2 m\nturn X by 2 k"),
            ("wires 1\nturn X by 1 k", "wires 1\nturn X by -3 k"),
            ("wires 2\nturn ZI by 3 k\nturn XX by 2 k", "wires 2\nturn ZI by -1 k\nturn XX by -2 k"),
        )
        for texts in pairs:
            one, other = Circuit(texts[0]), Circuit(texts[1])
            knobs = knobs_of(one, other)
            for quarters in itertools.product(helper.QUARTERS, repeat=len(knobs)):
                self.assertTrue(alike_at(one, other, {k: tuple(map(Fraction, q)) for k, q in zip(knobs, quarters)}))
            self.is_apart(one, other)
            self.is_apart(other, one)

    def test_unlike_only_where_several_knobs_are_at_no_quarter(self):
        for lines in (
            ["turn X by 4 a", "turn Z by 4 b", "turn X by -4 a", "turn Z by -4 b"],
            ["turn X by 4 a", "turn Z by 4 b", "turn X by -4 a", "turn Y by 4 c", "turn X by 4 a", "turn Y by -4 c"],
            ["turn X by 4 a 4 b 4 c", "turn Z by 4 a -4 b", "turn X by -4 a -4 b -4 c", "turn Z by -4 a 4 b"],
            ["turn X by 4 a", "turn X by 4 a", "turn X by 4 a", "turn X by 4 a", "turn X by 4 a", "turn X by 4 a"],
        ):
            circuit = Circuit("\n".join(["wires 1"] + lines))
            for other in (Circuit("wires 1"), Circuit("wires 1\nturn Z by 4 z"), ~circuit):
                if other != circuit:
                    self.is_apart(circuit, other)
                    self.is_apart(other, circuit)

    def test_other_knobs(self):
        one, other = Circuit("wires 1\nturn X by 1 k"), Circuit("wires 1\nturn X by 1 m")
        self.is_apart(one, other)
        self.is_apart(one, Circuit("wires 1"))
        self.is_apart(Circuit("wires 1\nh 0"), Circuit("wires 1"))
        self.assertEqual(same(Circuit("wires 1\nh 0"), Circuit("wires 1"))[1], ())
        self.is_same(Circuit("wires 1\nturn X by 1 k\nturn X by -1 k"), Circuit("wires 1\nturn X by 1 m\nturn X by -1 m"))


class ShownTest(LikenessTest):
    def setUp(self):
        self.one = Circuit("wires 1\nturn X by 1 k\nturn Z by 1 m")
        self.other = Circuit("wires 1\nturn Z by 1 m\nturn X by 1 k")
        self.setting = (("k", Ratio(3, 5), Ratio(4, 5)), ("m", 0, 1))

    def shown(self, value, one=None, other=None):
        got = shows_same(one or self.one, other or self.other, value)
        self.assertIs(type(got), bool)
        return got

    def test_settings_and_words(self):
        for text in ("X", "-X", "Y", "-Y", "Z"):
            for setting in (self.setting, (("k", 0, -1), ("m", 0, 1)), (("k", Ratio(0), 1), ("m", 0, Ratio(1)))):
                angles = helper.angles_of(setting)
                wanted = helper.back(self.one.text, text, angles) != helper.back(self.other.text, text, angles)
                self.assertIs(self.shown(("apart", setting, Word(text))), wanted)
        self.assertFalse(self.shown(("apart", self.setting, Word("I"))))
        self.assertFalse(self.shown(("apart", (("k", 1, 0), ("m", 0, 1)), Word("X"))))
        self.assertFalse(self.shown(("apart", (("k", -1, 0), ("m", -1, 0)), Word("X"))))

    def test_all_settings_of_quarters(self):
        for quarters in itertools.product(helper.QUARTERS, repeat=2):
            setting = tuple((knob, c, s) for knob, (c, s) in zip("km", quarters))
            angles = helper.angles_of(setting)
            for text in ("X", "Y", "-Z", "I"):
                wanted = helper.back(self.one.text, text, angles) != helper.back(self.other.text, text, angles)
                self.assertIs(self.shown(("apart", setting, Word(text))), wanted)

    def test_wrong_settings(self):
        k, m = self.setting
        for setting in (
            (), (k,), (m,), (m, k), (k, m, ("n", 1, 0)), (("a", 1, 0), k, m), (k, ("n", 0, 1)), [k, m], (list(k), m),
            (k, k), (k, m, m), (("k", 1, 1), m), (("k", True, 0), m), (("k", 0, True), m), (k, ("m", 0, 2)), (k, ("m", "0", 1)),
            None, "k", {"k": (0, 1)}, (("k", 0), m), (k, m, None),
        ):
            self.assertFalse(self.shown(("apart", setting, Word("X"))))

    def test_wrong_words(self):
        for word in ("X", Word("XX"), Word("II"), None, 1, ("X",), [Word("X")], Circuit("wires 1"), Word("XXXX")):
            self.assertFalse(self.shown(("apart", self.setting, word)))

    def test_values_of_any_kind(self):
        right = ("apart", self.setting, Word("X"))
        self.assertTrue(self.shown(right))
        for value in helper.any_values() + [
            list(right), right[:2], right + (1,), right[:1], ("Apart",) + right[1:], (True,) + right[1:], (None,) + right[1:],
            (("apart",),) + right[1:], right[::-1], ("same", self.setting, Word("X")), ("same", "same"), "apart", ("apart",),
            (["same"],), ("Same",), (right,), {"apart": right},
        ]:
            self.assertFalse(self.shown(value))
            if value != SAME:
                self.assertFalse(self.shown(value, self.one, self.one))
        self.assertTrue(self.shown(SAME, self.one, self.one))
        self.assertFalse(self.shown(["same"], self.one, self.one))
        self.assertFalse(self.shown(right, self.one, self.one))

    def test_great_numbers(self):
        n = 10 ** 60 + 1
        c, s = Ratio(1 - n * n, 1 + n * n), Ratio(2 * n, 1 + n * n)
        self.assertTrue(self.shown(("apart", (("k", c, s), ("m", c, s)), Word("X"))))
        self.assertFalse(self.shown(("apart", (("k", c, s), ("m", c, s)), Word("X")), self.one, self.one))

    def test_other_sizes(self):
        for value in (SAME, ("apart", (), Word("X")), None, 5):
            for other in [Circuit("wires 2"), Circuit("wires 4\nh 0")] + helper.any_values():
                if not isinstance(other, Circuit) or other.wires != 1:
                    refused(self, OtherSize, other, same, self.one, other)
                    refused(self, OtherSize, other, shows_same, self.one, other, value)

    def test_names_and_equal_calls(self):
        told = same(other=self.other, one=self.one)
        self.assertEqual(told, same(self.one, self.other))
        self.assertIs(shows_same(value=told, other=self.other, one=self.one), True)


if __name__ == "__main__":
    unittest.main()
