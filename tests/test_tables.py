"""Tables of fixed lines: section 14."""

import random
import unittest

import helper
from helper import refused, with_lines
from looseknobs.circuits import Circuit
from looseknobs.errors import BadImages, BadWord, OtherSize
from looseknobs.likeness import same
from looseknobs.ratios import Ratio
from looseknobs.starts import Start
from looseknobs.tables import Table, behind, gates, shows_gates, table_of
from looseknobs.waves import Wave
from looseknobs.words import Word

BELL = ("ZX", "XI", "IX", "XZ")


def table(*texts):
    return Table(tuple(Word(text) for text in texts))


def texts_of(told):
    return tuple(word.text for word in told.images)


def led(text, word):
    """The text of the word to which fixed lines lead one back, line by line in the test."""
    ((letters, sign),) = helper.back(text, word).items()
    return ("-" if sign < 0 else "") + letters


def fixed_text(rng, wires, many):
    return "\n".join([f"wires {wires}"] + [helper.some_fixed(rng, wires) for _ in range(many)])


def drawn(seed, many, lines=12):
    rng = random.Random(seed)
    return [fixed_text(rng, 1 + number % 4, rng.randint(0, lines)) for number in range(many)]


class TableTest(unittest.TestCase):
    def test_images_and_wires(self):
        for text in drawn(241, 60):
            wires = int(text.split("\n")[0][-1])
            images = tuple(Word(led(text, word)) for word in helper.first_words(wires))
            made = Table(images)
            self.assertIs(type(made.images), tuple)
            self.assertEqual(made.images, images)
            self.assertIs(type(made.wires), int)
            self.assertEqual(made.wires, wires)
            self.assertEqual(table_of(Circuit(text)), made)

    def test_table_of_each_line(self):
        for line in ("h 0", "h 1", "cz 0 1", "cx 0 1", "cx 1 0", "swap 0 1", "flip XY", "flip -XY", "quarter ZY", "quarter -ZY", "quarter XI"):
            text = "wires 2\n" + line
            self.assertEqual(texts_of(table_of(Circuit(text))), tuple(led(text, word) for word in helper.first_words(2)), line)

    def test_table_of_passes_turns_over(self):
        for circuit in helper.some_circuits(242, 40, turns=6):
            wanted = tuple(led(circuit.still.text, word) for word in helper.first_words(circuit.wires))
            self.assertEqual(texts_of(table_of(circuit)), wanted)
            self.assertEqual(table_of(circuit), table_of(circuit.still))

    def test_back_of_all_words(self):
        for text in drawn(243, 24):
            told = table_of(Circuit(text))
            for letters in helper.all_letters(told.wires):
                for word in (letters, "-" + letters):
                    got = told.back(Word(word))
                    self.assertIsInstance(got, Word)
                    self.assertEqual(got.text, led(text, word), (text, word))

    def test_back_goes_along_with_products_and_bending(self):
        rng = random.Random(244)
        for text in drawn(245, 60):
            told = table_of(Circuit(text))
            one, other = (Word(rng.choice(("", "-")) + rng.choice(helper.all_letters(told.wires))) for _ in range(2))
            back = told.back(one), told.back(other)
            self.assertIs(one.passes(other), back[0].passes(back[1]))
            if one.passes(other):
                self.assertEqual(told.back(one * other), back[0] * back[1])
            else:
                self.assertEqual(told.back(one.bent(other)), back[0].bent(back[1]))

    def test_back_refused(self):
        told = table(*BELL)
        for value in helper.any_values() + ["ZZ", told, ("ZZ",)]:
            if not isinstance(value, Word):
                refused(self, BadWord, value, told.back, value)
        for text in ("Z", "-III", "ZZZZ"):
            refused(self, OtherSize, word := Word(text), told.back, word)

    def test_products(self):
        rng = random.Random(246)
        for number in range(60):
            wires = 1 + number % 4
            one, other = (Circuit(fixed_text(rng, wires, 8)) for _ in range(2))
            made = table_of(one) * table_of(other)
            self.assertEqual(made, table_of(one * other))
            for letters in helper.all_letters(wires)[::7]:
                self.assertEqual(made.back(Word(letters)).text, led((one * other).text, letters))

    def test_contrary(self):
        for text in drawn(247, 60):
            circuit = Circuit(text)
            told = table_of(circuit)
            self.assertEqual(~told, table_of(~circuit))
            for both in (told * ~told, ~told * told):
                self.assertEqual(texts_of(both), tuple(helper.first_words(told.wires)))
            self.assertEqual(~~told, told)

    def test_products_refused(self):
        told = table(*BELL)
        for other in (table("X", "Z"), table_of(Circuit("wires 3")), table_of(Circuit("wires 4\nh 0"))):
            refused(self, OtherSize, other, lambda: told * other)
            refused(self, OtherSize, told, lambda: other * told)
        for value in helper.any_values() + [told.images, Start((Word("ZZ"), Word("XX")))]:
            with self.assertRaises(TypeError):
                told * value
            with self.assertRaises(TypeError):
                value * told

    def test_equality(self):
        self.assertEqual(table(*BELL), table(*BELL))
        self.assertFalse(table(*BELL) != table(*BELL))
        for texts in (("X", "Z"), ("ZX", "XI", "IX", "-XZ"), ("XI", "ZX", "XZ", "IX"), ("XI", "ZI", "IX", "IZ")):
            self.assertNotEqual(table(*BELL), table(*texts))
        for value in helper.any_values() + [table(*BELL).images, BELL]:
            self.assertFalse(table(*BELL) == value)
            self.assertTrue(table(*BELL) != value)

    def test_by_name(self):
        self.assertEqual(Table(images=table(*BELL).images), table(*BELL))
        self.assertEqual(table(*BELL).back(word=Word("-YY")), Word("ZZ"))
        self.assertEqual(table_of(circuit=Circuit("wires 2\nh 0\ncx 0 1")), table(*BELL))


class BadImagesTest(unittest.TestCase):
    def refused(self, value):
        refused(self, BadImages, value, Table, value)

    def test_values_of_any_kind(self):
        for value in helper.any_values():
            self.refused(value)
        x, z = Word("X"), Word("Z")
        for value in ([x, z], x, ((x, z),), ("X", "Z"), (x, "Z"), (x, None), ([x], z), {x.text: z}, (x, (z,)), table("X", "Z"), (1, 2)):
            self.refused(value)

    def test_how_many(self):
        for texts in (
            (), ("X",), ("X", "Z", "X"), ("X", "Z", "X", "Z"), ("XI", "ZI"), ("XI", "ZI", "IX"), ("XI", "ZI", "IX", "IZ", "II"),
            ("XI", "ZI", "IX", "IZ", "XI", "ZI"), ("XII", "ZII", "IXI", "IZI"), ("XIII", "ZIII", "IXII", "IZII", "IIXI", "IIZI"),
            ("X", "Z") * 5,
        ):
            self.refused(tuple(Word(text) for text in texts))

    def test_other_sizes(self):
        for texts in (("X", "ZI"), ("XI", "ZI", "IX", "Z"), ("XI", "ZI", "IXI", "IZ"), ("XX", "ZI")):
            self.refused(tuple(Word(text) for text in texts))

    def test_what_passes_otherwise(self):
        for texts in (
            ("X", "X"), ("X", "-X"), ("I", "Z"), ("X", "I"), ("I", "I"), ("XI", "IX", "ZI", "IZ"), ("XI", "ZI", "ZX", "IZ"),
            ("XI", "ZI", "IX", "IX"), ("XI", "ZI", "II", "IZ"), ("XI", "ZX", "IX", "IZ"), ("XX", "ZI", "IX", "IZ"),
        ):
            self.refused(tuple(Word(text) for text in texts))

    def test_one_image_otherwise(self):
        rng = random.Random(248)
        for text in drawn(249, 60):
            images = list(table_of(Circuit(text)).images)
            at = rng.randrange(len(images))
            for letters in helper.all_letters(len(images) // 2)[::5]:
                changed = images[:at] + [Word(letters)] + images[at + 1 :]
                right = all(
                    helper.passes(changed[a].letters, changed[b].letters) == (a // 2 != b // 2)
                    for a in range(len(changed)) for b in range(a)
                )
                if right:
                    self.assertEqual(Table(tuple(changed)).images, tuple(changed))
                else:
                    self.refused(tuple(changed))


class GatesTest(unittest.TestCase):
    def right(self, told):
        made = gates(told)
        self.assertIsInstance(made, Circuit)
        self.assertEqual(made.wires, told.wires)
        self.assertEqual(made.turns, ())
        self.assertLessEqual(len(made), 40)
        wanted = tuple(led(made.text, word) for word in helper.first_words(told.wires))
        self.assertEqual(texts_of(told), wanted)
        self.assertIs(shows_gates(told, made), True)
        self.assertEqual(gates(told), made)

    def test_all_tables_of_one_wire(self):
        words = [sign + letter for letter in "XYZ" for sign in ("", "-")]
        tables = [table(x, z) for x in words for z in words if x[-1] != z[-1]]
        self.assertEqual(len(tables), 24)
        for told in tables:
            self.right(told)

    def test_drawn_tables(self):
        for text in drawn(250, 160, lines=40):
            self.right(table_of(Circuit(text)))

    def test_signs_alone(self):
        for wires in range(1, 5):
            words = helper.first_words(wires)
            for number in range(2 ** len(words)):
                self.right(table(*[("-" if number >> at & 1 else "") + word for at, word in enumerate(words)]))

    def test_tables_that_exchange_words_far_off(self):
        for texts in (
            ("Z", "X"), ("IX", "IZ", "XI", "ZI"), ("ZI", "XI", "IZ", "IX"), ("IIIX", "IIIZ", "IIXI", "IIZI", "IXII", "IZII", "XIII", "ZIII"),
            ("IIIZ", "IIIX", "IIZI", "IIXI", "IZII", "IXII", "ZIII", "XIII"), ("-IY", "IX", "YI", "ZI"), ("Y", "Z"),
        ):
            self.right(table(*texts))

    def test_shown(self):
        rng = random.Random(251)
        for text in drawn(252, 60):
            circuit = Circuit(text)
            told = table_of(circuit)
            self.assertIs(shows_gates(told, circuit), True)
            line = helper.some_fixed(rng, told.wires)
            if len(circuit) < 40:
                other = circuit.put(rng.randint(0, len(circuit)), line)
                self.assertIs(shows_gates(told, other), table_of(other) == told)
                turning = circuit.put(rng.randint(0, len(circuit)), f"turn {'Z' * told.wires} by 1 k")
                self.assertEqual(table_of(turning), told)
                self.assertIs(shows_gates(told, turning), False)
            self.assertIs(shows_gates(told, ~circuit), ~told == told)

    def test_shown_of_other_sizes_and_values(self):
        told = table("XI", "ZI", "IX", "IZ")
        self.assertIs(shows_gates(told, Circuit("wires 2")), True)
        self.assertIs(shows_gates(told, Circuit("wires 2" + "\nh 0" * 40)), True)
        self.assertIs(shows_gates(told, Circuit("wires 2" + "\nh 0" * 39)), False)
        for value in (Circuit("wires 1"), Circuit("wires 3"), Circuit("wires 2\nturn XX by 1 k\nturn XX by -1 k")):
            self.assertIs(shows_gates(told, value), False)
        for value in helper.any_values() + [told, "wires 2", (Circuit("wires 2"),), [Circuit("wires 2")], told.images]:
            self.assertIs(shows_gates(told, value), False)

    def test_by_name(self):
        told = table(*BELL)
        self.assertIs(shows_gates(value=gates(table=told), table=told), True)


class BehindTest(unittest.TestCase):
    def test_fixed_lines_put_behind(self):
        rng = random.Random(253)
        for circuit in helper.some_circuits(254, 60, turns=6, fixed=6):
            fixed = Circuit(fixed_text(rng, circuit.wires, rng.randint(0, 8)))
            got = behind(circuit, circuit * fixed)
            self.assertEqual(got, table_of(fixed), circuit.text)
            self.assertEqual(behind(circuit * fixed, circuit), ~table_of(fixed))

    def test_circuits_laid_anew(self):
        rng = random.Random(255)
        for circuit in helper.some_circuits(256, 60, turns=4):
            lines = helper.lines_of(circuit)
            for _ in range(2):
                place = rng.randrange(len(lines) + 1)
                pair = [rng.choice((helper.some_fixed(rng, circuit.wires), helper.some_turn(rng, circuit.wires, "xyz", 1)))]
                pair.append((~with_lines(circuit.wires, pair))[0])
                lines[place:place] = pair
            if sum(line.startswith("turn ") for line in lines) > 6:
                continue
            other = with_lines(circuit.wires, lines)
            fixed = Circuit(fixed_text(rng, circuit.wires, 4))
            self.assertEqual(behind(circuit, other * fixed), table_of(fixed))

    def test_what_is_told_is_so_and_none_otherwise(self):
        rng = random.Random(257)
        seen = {True: 0, False: 0}
        for number in range(150):
            wires = 1 + number % 3
            one, other = (Circuit(helper.some_text(rng, wires, 3, rng.randint(0, 2), "ab", 1)) for _ in range(2))
            got = behind(one, other)
            wanted = ~table_of(one) * table_of(other)
            found = same(one * gates(wanted), other) == ("same",)
            self.assertEqual(got, wanted if found else None)
            seen[found] += 1
        self.assertGreater(min(seen.values()), 10)

    def test_none(self):
        row = Circuit("wires 2\nturn ZZ by 1 a\nh 0\nturn ZI by 1 b\nturn IX by 2 c -1 a")
        for one, other in (
            (row, Circuit("wires 2")), (Circuit("wires 2"), row), (row, ~row), (row, row.without(2)),
            (Circuit("wires 1\nturn X by 1 k"), Circuit("wires 1\nturn X by 1 m")),
            (Circuit("wires 1\nturn X by 1 k"), Circuit("wires 1\nturn X by -1 k")),
            (Circuit("wires 1\nturn X by 4 k"), Circuit("wires 1")),
            (Circuit("wires 1\nturn X by 1 k"), Circuit("wires 1\nh 0\nturn X by 1 k")),
        ):
            self.assertIsNone(behind(one, other))

    def test_the_same_circuit_and_signs(self):
        for circuit in helper.some_circuits(258, 30, turns=5):
            words = helper.first_words(circuit.wires)
            self.assertEqual(texts_of(behind(circuit, circuit)), tuple(words))
            for about in ("X" + "I" * (circuit.wires - 1), "Z" * circuit.wires, "I" * (circuit.wires - 1) + "Y"):
                flip = Circuit(f"wires {circuit.wires}\nflip {about}")
                got = behind(circuit, circuit * flip)
                self.assertEqual(texts_of(got), tuple(word if helper.passes(word, about) else "-" + word for word in words))

    def test_the_largest_circuits(self):
        for seed in range(3):
            circuit = Circuit(helper.large_text(seed + 70))
            self.assertEqual(texts_of(behind(circuit, circuit)), tuple(helper.first_words(4)))
            fixed = [number for number in range(40) if number not in circuit.turns]
            less = circuit.without(fixed[0])
            self.assertIn(behind(less, circuit), (None, ~table_of(less) * table_of(circuit)))
            self.assertIsNone(behind(circuit, circuit.without(circuit.turns[0])))

    def test_refused(self):
        one = Circuit("wires 1\nh 0")
        told = table("X", "Z")
        for other in [Circuit("wires 2"), Circuit("wires 4"), told, Ratio(1), Wave(())] + helper.any_values():
            if not isinstance(other, Circuit) or other.wires != 1:
                refused(self, OtherSize, other, behind, one, other)

    def test_by_name(self):
        circuit = Circuit("wires 1\nturn X by 1 k")
        self.assertEqual(behind(other=circuit * Circuit("wires 1\nh 0"), one=circuit), table("Z", "X"))


if __name__ == "__main__":
    unittest.main()
