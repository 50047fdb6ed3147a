"""Turns led to the beginning, and layers of them: section 11."""

import itertools
import random
import unittest

import helper
from helper import refused
from looseknobs.circuits import Circuit
from looseknobs.errors import BadNumber, BadRows
from looseknobs.layers import laid, layers, packed, shows_layers, shows_packed, turned
from looseknobs.likeness import same
from looseknobs.ratios import Ratio
from looseknobs.words import Word

DRAWN = helper.some_circuits(121, 120, turns=6, fixed=8)
ROW = Circuit("wires 2\nturn ZZ by 1 a\nh 0\nturn ZI by 1 b\nturn IX by 2 c -1 a")


def led(circuit):
    """For each turn the text of its word led to the beginning, and its pairs, by leading in the test."""
    lines = circuit.text.split("\n")
    found = []
    for number in circuit.turns:
        fixed = [lines[0]] + [line for line in lines[1 : number + 1] if not line.startswith("turn ")]
        ((letters, sign),) = helper.back("\n".join(fixed), lines[number + 1].split(" ")[1]).items()
        found.append((("-" if sign < 0 else "") + letters, tuple(sorted(helper.form_of(lines[number + 1])))))
    return found


def crossing(circuit):
    """All (earlier, later) of turns that do not pass."""
    words = [helper.signed(text)[1] for text, pairs in led(circuit)]
    return [(a, b) for b in range(len(words)) for a in range(b) if not helper.passes(words[a], words[b])]


def are_layers(circuit, rows):
    """Whether these tuples of integers are layers, by what the document says of them."""
    place = {turn: at for at, row in enumerate(rows) for turn in row}
    if sorted(turn for row in rows for turn in row) != list(range(len(circuit.turns))):
        return False
    if not all(len(row) > 0 and list(row) == sorted(row) for row in rows):
        return False
    return all(place[a] < place[b] for a, b in crossing(circuit))


def fewest(circuit, most):
    """The least number of layers with at most so many turns, by a search of the test's own."""
    many = len(circuit.turns)
    pairs = crossing(circuit)

    def fits(places, number):
        turn = len(places)
        if turn == many:
            return True
        for place in range(number):
            if places.count(place) < most and all(places[a] < place for a, b in pairs if b == turn):
                if fits(places + [place], number):
                    return True
        return False

    return next(number for number in range(many + 1) if fits([], number))


def all_layers(circuit):
    """All layers of a circuit, however many."""
    many = len(circuit.turns)
    for number in range(many + 1):
        for places in itertools.product(range(number), repeat=many):
            rows = tuple(tuple(turn for turn in range(many) if places[turn] == at) for at in range(number))
            if all(rows) and are_layers(circuit, rows):
                yield rows


class TurnedTest(unittest.TestCase):
    def test_beside_leading(self):
        for circuit in DRAWN + [Circuit(helper.large_text(seed)) for seed in range(5)]:
            told = turned(circuit)
            self.assertIs(type(told), tuple)
            self.assertEqual([(word.text, pairs) for word, pairs in told], led(circuit))
            for word, pairs in told:
                self.assertIsInstance(word, Word)

    def test_no_turns_and_names(self):
        self.assertEqual(turned(Circuit("wires 1\nh 0")), ())
        self.assertEqual(turned(circuit=ROW), turned(ROW))


class LayersTest(unittest.TestCase):
    def test_layers_and_chains(self):
        for circuit in DRAWN + [Circuit(helper.large_text(seed)) for seed in range(5)]:
            told = layers(circuit)
            rows, chain = told
            self.assertTrue(are_layers(circuit, rows), (circuit.text, rows))
            self.assertEqual([type(told), type(rows), type(chain)], [tuple] * 3)
            self.assertEqual(len(chain), len(rows))
            self.assertEqual(list(chain), sorted(set(chain)))
            for pair in zip(chain, chain[1:]):
                self.assertIn(pair, crossing(circuit))
            self.assertEqual(len(rows), fewest(circuit, 6))
            self.assertIs(shows_layers(circuit, told), True)
            self.assertEqual(layers(circuit=circuit), told)

    def test_without_turns(self):
        for text in ("wires 1", "wires 2\nh 0\ncx 0 1"):
            self.assertEqual(layers(Circuit(text)), ((), ()))
            self.assertIs(shows_layers(Circuit(text), ((), ())), True)
            for value in ((), [], ((),), ((), (), ()), ((), []), ([], ()), (((),), ()), (((0,),), (0,)), (((),), (0,))):
                self.assertIs(shows_layers(Circuit(text), value), False)

    def test_other_right_layers(self):
        seen = 0
        for circuit in DRAWN:
            if len(circuit.turns) > 4:
                continue
            pairs = crossing(circuit)
            least = len(layers(circuit)[0])
            chains = [
                chain for chain in itertools.combinations(range(len(circuit.turns)), least)
                if all(pair in pairs for pair in zip(chain, chain[1:]))
            ]
            for rows in all_layers(circuit):
                for chain in itertools.combinations(range(len(circuit.turns)), len(rows)):
                    self.assertIs(shows_layers(circuit, (rows, chain)), len(rows) == least and chain in chains)
                    seen += len(rows) == least and chain in chains
        self.assertGreater(seen, 100)

    def test_wrong_values(self):
        rows, chain = ((0,), (1, 2)), (0, 1)
        self.assertTrue(shows_layers(ROW, (rows, chain)))
        for wrong in (
            ((0, 1), (2,)), ((1, 2), (0,)), ((0,), (2, 1)), ((0,), (1,)), ((0,), (1,), ()), ((), (0,), (1, 2)), ((0,), (1, 2), (3,)),
            ((0,), (1, 2, 2)), ((0,), (0, 1, 2)), ((0, 1, 2),), [(0,), (1, 2)], ([0], [1, 2]), ((False,), (1, 2)), ((0,), (True, 2)),
            ((0,), (1, Ratio(2))), ((0,), (1, "2")), ((0,), 1, 2), (0, 1, 2), None, "", 5, ((0,), None), ((0,), (-1, 1, 2)), ((0,), (1, 2, None)),
        ):
            self.assertIs(shows_layers(ROW, (wrong, chain)), False)
            self.assertIs(shows_layers(ROW, (wrong, (0,))), False)
        for wrong in (
            (1, 2), (0,), (), (0, 1, 2), (1, 0), (0, 0), [0, 1], (False, 1), (0, True), (0, Ratio(1)), (0, 3), (-1, 1), None, "01", ("0", "1"),
            ((0,), (1,)), (0, None),
        ):
            self.assertIs(shows_layers(ROW, (rows, wrong)), False)
        self.assertTrue(shows_layers(ROW, (rows, (0, 1))))
        for value in helper.any_values() + [[rows, chain], (rows,), (rows, chain, 1), (chain, rows), {rows: chain}]:
            self.assertIs(shows_layers(ROW, value), False)
        self.assertIs(shows_layers(value=(rows, chain), circuit=ROW), True)

    def test_more_layers_than_needed(self):
        self.assertIs(shows_layers(ROW, (((0,), (1,), (2,)), (0, 1, 2))), False)
        self.assertIs(shows_layers(ROW, (((0,), (1,), (2,)), (0, 1))), False)


class PackedTest(unittest.TestCase):
    def test_beside_a_search(self):
        for circuit in DRAWN:
            for most in (1, 2, 3, 4, 5, 6):
                told = packed(circuit, most)
                number, rows = told
                self.assertIs(type(number), int)
                self.assertTrue(are_layers(circuit, rows))
                self.assertEqual([type(rows)] + [type(row) for row in rows], [tuple] * (number + 1))
                self.assertEqual(number, len(rows))
                self.assertLessEqual(max([len(row) for row in rows], default=0), most)
                self.assertEqual(number, fewest(circuit, most), (circuit.text, most))
                self.assertIs(shows_packed(circuit, most, told), True)

    def test_early_rows_are_not_always_the_fewest(self):
        # The turns that others wait for must come first, though they stand last.
        circuit = Circuit("wires 4\nturn IZII by 1 a\nturn IIZI by 1 b\nturn ZIII by 1 c\nturn XIIX by 1 d\nturn IIIZ by 1 e")
        self.assertEqual([packed(circuit, most)[0] for most in (1, 2, 3, 6)], [5, 3, 3, 3])
        self.assertEqual(packed(Circuit("wires 1\n" + "\n".join(["turn X by 1 k"] * 6)), 4)[0], 2)
        self.assertEqual(packed(Circuit("wires 1\nh 0"), 1), (0, ()))

    def test_other_right_rows(self):
        seen = 0
        for circuit in DRAWN:
            if len(circuit.turns) > 4:
                continue
            for most in (1, 2, 3):
                least = fewest(circuit, most)
                for rows in all_layers(circuit):
                    wanted = len(rows) == least and all(len(row) <= most for row in rows)
                    self.assertIs(shows_packed(circuit, most, (len(rows), rows)), wanted)
                    self.assertIs(shows_packed(circuit, most, (least + 1, rows)), False)
                    seen += wanted
        self.assertGreater(seen, 100)

    def test_wrong_values(self):
        rows = ((0,), (1, 2))
        self.assertTrue(shows_packed(ROW, 2, (2, rows)))
        for wrong in (
            ((0, 1), (2,)), ((1, 2), (0,)), ((0,), (1,)), [(0,), (1, 2)], ([0], [1, 2]), ((0,), (1, 2), ()), ((False,), (1, 2)), None, 2,
            ((0,), (2, 1)), ((0,), (1, 2, 3)),
        ):
            self.assertIs(shows_packed(ROW, 2, (2, wrong)), False)
        for number in (1, 3, 0, -2, True, None, "2", Ratio(2), (2,), 2.0):
            self.assertIs(shows_packed(ROW, 2, (number, rows)), False)
        self.assertIs(shows_packed(ROW, 1, (2, rows)), False)
        self.assertIs(shows_packed(ROW, 1, (3, ((0,), (1,), (2,)))), True)
        self.assertIs(shows_packed(ROW, 1, (3, ((0,), (2,), (1,)))), True)
        self.assertIs(shows_packed(ROW, 2, (2, ((0,), (1,), (2,)))), False)
        self.assertIs(shows_packed(ROW, 1, (3, rows)), False)
        self.assertIs(shows_packed(Circuit("wires 1\nturn X by 1 k"), 1, (True, ((0,),))), False)
        self.assertIs(shows_packed(Circuit("wires 1"), 3, (0, ())), True)
        self.assertIs(shows_packed(Circuit("wires 1"), 3, (False, ())), False)
        for value in helper.any_values() + [[2, rows], (2,), (2, rows, 1), (rows, 2), rows]:
            self.assertIs(shows_packed(ROW, 2, value), False)

    def test_no_numbers(self):
        for wrong in helper.any_values() + [7, -2, 10 ** 20, 1.0, "1", (1,), [1], Ratio(2)]:
            if type(wrong) is int and 1 <= wrong <= 6:
                continue
            refused(self, BadNumber, wrong, packed, ROW, wrong)
            refused(self, BadNumber, wrong, packed, Circuit("wires 1"), wrong)
            for value in (None, (2, ((0,), (1, 2)))):
                refused(self, BadNumber, wrong, shows_packed, ROW, wrong, value)

    def test_names_and_equal_calls(self):
        self.assertEqual(packed(most=2, circuit=ROW), packed(ROW, 2))
        self.assertIs(shows_packed(value=packed(ROW, 2), most=2, circuit=ROW), True)


class LaidTest(unittest.TestCase):
    def text_by_hand(self, circuit, rows):
        found = led(circuit)
        turns = [
            f"turn {found[turn][0]} by " + " ".join(f"{many} {knob}" for knob, many in found[turn][1]) for row in rows for turn in row
        ]
        lines = circuit.text.split("\n")
        return "\n".join(lines[:1] + turns + [line for line in lines[1:] if not line.startswith("turn ")])

    def test_does_the_same(self):
        rng = random.Random(122)
        for circuit in DRAWN:
            choices = [layers(circuit)[0], packed(circuit, 1)[1], packed(circuit, 2)[1]]
            if len(circuit.turns) <= 4:
                every = list(all_layers(circuit))
                choices += rng.sample(every, min(4, len(every)))
            for rows in choices:
                made = laid(circuit, rows)
                self.assertIsInstance(made, Circuit)
                self.assertEqual(made.text, self.text_by_hand(circuit, rows))
                self.assertEqual(same(circuit, made), ("same",))
                self.assertEqual(turned(made), tuple(turned(circuit)[turn] for row in rows for turn in row))

    def test_the_largest_circuits(self):
        for seed in range(3):
            circuit = Circuit(helper.large_text(seed + 40))
            self.assertEqual(same(circuit, laid(circuit, layers(circuit)[0])), ("same",))

    def test_wrong_rows(self):
        for wrong in helper.any_values() + [
            ((0, 1), (2,)), ((1, 2), (0,)), ((1,), (0,), (2,)), ((0,), (2, 1)), ((0,), (1,)), ((0,), (1, 2), ()), ((), (0,), (1, 2)),
            ((0,), (1, 2), (3,)), ((0,), (1, 2, 3)), ((0,), (1, 1, 2)), ((0,), (1,), (1, 2)), ((0, 1, 2),), [(0,), (1, 2)], ([0], [1, 2]),
            ((0,), [1, 2]), ((False,), (1, 2)), ((0,), (True, 2)), ((0,), (1, Ratio(2))), ((0,), (1, 2.0)), (0, 1, 2), ((0,), (1, None)),
            ((-3,), (1, 2)), ((0,), "12"), (((0,),), (1, 2)),
        ]:
            with self.subTest(wrong=wrong):
                refused(self, BadRows, wrong, laid, ROW, wrong)
        for wrong in (((),), [], ((0,),), None):
            refused(self, BadRows, wrong, laid, Circuit("wires 1\nh 0"), wrong)

    def test_all_sequences_of_rows(self):
        for circuit in DRAWN[:60]:
            if len(circuit.turns) == 3:
                for order in itertools.permutations(range(3)):
                    for rows in (tuple((turn,) for turn in order), (order[:2], order[2:]), (order[:1], order[1:]), (order,)):
                        if are_layers(circuit, rows):
                            self.assertEqual(laid(circuit, rows).text, self.text_by_hand(circuit, rows))
                        else:
                            refused(self, BadRows, rows, laid, circuit, rows)

    def test_names_and_no_turns(self):
        self.assertEqual(laid(rows=((0,), (1, 2)), circuit=ROW), laid(ROW, ((0,), (1, 2))))
        circuit = Circuit("wires 2\nh 0\ncx 0 1")
        self.assertEqual(laid(circuit, ()), circuit)


if __name__ == "__main__":
    unittest.main()
