"""Benches: section 17, without trials."""

import random
import unittest

import helper
from helper import lines_of, refused, refused_about, with_lines
from looseknobs.benches import Bench
from looseknobs.circuits import Circuit
from looseknobs.errors import (
    BadAngle, BadLine, BadName, BadPlace, BadWord, Long, Loose, Many, NoKnob, NoLine, NothingToRedo, NothingToUndo, NoTrial, OtherSize, Unlike,
)
from looseknobs.journals import journal
from looseknobs.likeness import same
from looseknobs.ratios import Ratio
from looseknobs.spreads import spread
from looseknobs.starts import Start, mean
from looseknobs.waves import Wave
from looseknobs.words import Word

KNOBS = ("a", "b", "c")


def start_of(*texts):
    return Start(tuple(Word(text) for text in texts))


class Model:
    """What a bench must tell, kept by the test: each step is (deed line, lines, angles as Ratios)."""

    def __init__(self, circuit, texts):
        self.first, self.texts, self.wires = circuit, texts, circuit.wires
        self.steps, self.taken = [], []

    def state(self):
        return self.steps[-1][1:] if self.steps else (lines_of(self.first), {})

    def do(self, deed, lines, angles):
        self.steps.append((deed, lines, angles))
        self.taken = []

    def fork(self):
        other = Model(self.first, self.texts)
        other.steps, other.taken = list(self.steps), list(self.taken)
        return other

    def put(self, place, line):
        lines, angles = self.state()
        self.do(f"put {place} {line}", lines[:place] + [line] + lines[place:], angles)

    def drop(self, number):
        lines, angles = self.state()
        self.do(f"drop {number}", lines[:number] + lines[number + 1 :], angles)

    def exchanged(self, number):
        lines = self.state()[0]
        return lines[:number] + [lines[number + 1], lines[number]] + lines[number + 2 :]

    def can_exchange(self, number):
        one, other = (with_lines(self.wires, lines) for lines in (self.state()[0], self.exchanged(number)))
        return same(one, other) == ("same",)

    def exchange(self, number):
        self.do(f"exchange {number}", self.exchanged(number), self.state()[1])

    def fix(self, knob, c, s):
        lines, angles = self.state()
        c, s = (n if isinstance(n, Ratio) else Ratio(n) for n in (c, s))
        self.do(f"fix {knob} {c.text} {s.text}", lines, {**angles, knob: (c, s)})

    def loosen(self, knob):
        lines, angles = self.state()
        self.do(f"loosen {knob}", lines, {name: pair for name, pair in angles.items() if name != knob})

    def undo(self):
        self.taken.append(self.steps.pop())

    def redo(self):
        self.steps.append(self.taken.pop())

    def text(self):
        return "\n".join([self.first.text, " ".join(["start"] + self.texts), "deeds"] + [step[0] for step in self.steps])


def tells(test, bench, model, words=()):
    """The bench tells all as the model has it."""
    lines, angles = model.state()
    circuit = with_lines(model.wires, lines)
    test.assertEqual(bench.first, model.first)
    test.assertEqual(bench.circuit, circuit)
    test.assertEqual([word.text for word in bench.start.words], model.texts)
    test.assertEqual(bench.setting, tuple((knob, *angles[knob]) for knob in sorted(angles)))
    test.assertIs(type(bench.setting), tuple)
    test.assertTrue(all(isinstance(n, Ratio) for row in bench.setting for n in row[1:]))
    test.assertEqual(bench.done, len(model.steps))
    test.assertEqual([type(bench.done), type(len(bench))], [int, int])
    test.assertEqual(len(bench), len(lines))
    for knob in KNOBS + ("x", "zz"):
        test.assertIs(knob in bench, knob in circuit.knobs and knob not in angles)
    test.assertEqual(journal(bench), model.text())
    for word in words:
        wave = mean(circuit, bench.start, Word(word)).put(bench.setting)
        test.assertEqual(bench.mean(Word(word)), wave)
        if wave.knobs:
            refused_about(test, Loose, wave.knobs[0], bench.read, Word(word))
        else:
            test.assertEqual(bench.read(Word(word)), wave.at(()))
            test.assertIsInstance(bench.read(Word(word)), Ratio)


def some_deed(rng, bench, model):
    """A drawn deed, done at both; whether it was done."""
    lines, angles = model.state()
    kind = rng.choice(("put", "put", "drop", "exchange", "exchange", "fix", "fix", "loosen", "undo", "undo", "redo"))
    if kind == "put":
        place = rng.randint(0, len(lines))
        turning = sum(line.startswith("turn ") for line in lines) < 6 and rng.random() < 0.4
        line = helper.some_turn(rng, model.wires, KNOBS) if turning else helper.some_fixed(rng, model.wires)
        if len(lines) == 40:
            return False
        told = (place, line)
    elif kind == "drop":
        if not lines:
            return False
        told = (rng.randrange(len(lines)),)
    elif kind == "exchange":
        if len(lines) < 2:
            return False
        told = (rng.randrange(len(lines) - 1),)
        if not model.can_exchange(*told):
            refused_about(model.test, Unlike, told[0], bench.exchange, *told)
            return False
    elif kind == "fix":
        a, b, d = rng.choice(helper.SLANTED + ((1, 0, 1), (0, -1, 1)))
        told = (rng.choice(KNOBS + ("x",)), Ratio(a, d) if d > 1 or rng.random() < 0.5 else a, Ratio(b, d) if d > 1 else b)
    elif kind == "loosen":
        if not angles:
            return False
        told = (rng.choice(sorted(angles)),)
    else:
        told = ()
        if not (model.steps if kind == "undo" else model.taken):
            refused_about(model.test, NothingToUndo if kind == "undo" else NothingToRedo, None, getattr(bench, kind))
            return False
    model.test.assertIsNone(getattr(bench, kind)(*told))
    getattr(model, kind)(*told)
    return True


def drawn_bench(test, rng, fixed=3, turns=3):
    wires = rng.randint(1, 3)
    circuit = Circuit(helper.some_text(rng, wires, rng.randint(0, fixed), rng.randint(0, turns), KNOBS, 2))
    texts = helper.some_start(rng, wires)
    model = Model(circuit, texts)
    model.test = test
    return Bench(circuit, start_of(*texts)), model


class DeedsTest(unittest.TestCase):
    def test_a_new_one(self):
        circuit, start = Circuit("wires 2\nturn XX by 1 k\nh 0"), start_of("ZI", "IZ")
        bench = Bench(circuit, start)
        self.assertEqual([bench.first, bench.circuit, bench.start], [circuit, circuit, start])
        self.assertEqual([bench.setting, bench.done, len(bench)], [(), 0, 2])
        self.assertIs("k" in bench, True)

    def test_drawn_rows(self):
        rng = random.Random(281)
        for _ in range(40):
            bench, model = drawn_bench(self, rng)
            for _ in range(25):
                some_deed(rng, bench, model)
                word = rng.choice(("", "-")) + rng.choice(helper.all_letters(model.wires))
                tells(self, bench, model, (word,))

    def test_a_hundred_deeds_and_more(self):
        rng = random.Random(282)
        bench, model = drawn_bench(self, rng)
        while bench.done < 120:
            some_deed(rng, bench, model)
        tells(self, bench, model)
        while bench.done:
            bench.undo()
            model.undo()
        tells(self, bench, model)
        for _ in range(len(model.taken)):
            bench.redo()
            model.redo()
        tells(self, bench, model)
        self.assertGreaterEqual(bench.done, 120)

    def test_exchange_of_each_two_neighbours(self):
        rng = random.Random(283)
        seen = {True: 0, False: 0}
        for circuit in helper.some_circuits(284, 80, turns=5, fixed=5):
            texts = helper.some_start(rng, circuit.wires)
            for number in range(len(circuit) - 1):
                bench, model = Bench(circuit, start_of(*texts)), Model(circuit, texts)
                can = model.can_exchange(number)
                if can:
                    self.assertIsNone(bench.exchange(number))
                    model.exchange(number)
                else:
                    refused(self, Unlike, number, bench.exchange, number)
                tells(self, bench, model)
                seen[can] += 1
        self.assertGreater(min(seen.values()), 40)

    def test_exchange_goes_by_all_angles_whatever_is_set(self):
        bench = Bench(Circuit("wires 1\nturn X by 1 k\nturn Z by 1 m\nturn Z by 2 m\nturn X by 4 k\nflip Z"), start_of("Z"))
        for knob in ("k", "m"):
            bench.fix(knob, 1, 0)
        for number in (0, 2, 3):
            refused(self, Unlike, number, bench.exchange, number)
        bench.exchange(1)
        self.assertEqual(bench.circuit[1], "turn Z by 2 m")

    def test_knobs_set_anew_loosened_and_not_there(self):
        bench = Bench(Circuit("wires 1\nturn X by 1 k"), start_of("Z"))
        z = Word("Z")
        refused_about(self, Loose, "k", bench.read, z)
        bench.fix("k", Ratio(3, 5), Ratio(4, 5))
        self.assertEqual([bench.read(z), "k" in bench], [Ratio(3, 5), False])
        bench.fix("k", Ratio(3, 5), Ratio(4, 5))
        self.assertEqual(bench.done, 2)
        bench.fix("k", 0, 1)
        self.assertEqual([bench.read(z), bench.setting], [Ratio(0), (("k", Ratio(0), Ratio(1)),)])
        bench.fix("abc", -1, 0)
        self.assertEqual(bench.setting, (("abc", Ratio(-1), Ratio(0)), ("k", Ratio(0), Ratio(1))))
        self.assertIs("abc" in bench, False)
        bench.drop(0)
        self.assertEqual([bench.read(z), len(bench.setting), "k" in bench], [Ratio(1), 2, False])
        bench.loosen("k")
        refused(self, NoKnob, "k", bench.loosen, "k")
        bench.put(0, "turn X by 2 k")
        self.assertIs("k" in bench, True)
        for _ in range(3):
            bench.undo()
        self.assertEqual([bench.done, bench.read(z)], [4, Ratio(0)])
        bench.loosen("abc")
        refused_about(self, NothingToRedo, None, bench.redo)

    def test_loose_tells_the_first_knob_of_what_is_left(self):
        bench = Bench(Circuit("wires 2\nturn XI by 1 b\nturn IX by 1 a\nturn IX by 1 c"), start_of("ZI", "IZ"))
        refused_about(self, Loose, "a", bench.read, Word("ZZ"))
        refused_about(self, Loose, "b", bench.read, Word("ZI"))
        bench.fix("a", 1, 0)
        refused_about(self, Loose, "b", bench.read, Word("ZZ"))
        refused_about(self, Loose, "c", bench.read, Word("IZ"))
        bench.fix("b", Ratio(3, 5), Ratio(4, 5))
        refused_about(self, Loose, "c", bench.read, Word("-ZZ"))
        self.assertEqual(bench.mean(Word("-ZZ")), Wave((((("c", 1),), Ratio(-3, 5), 0),)))
        bench.fix("b", 0, 1)
        self.assertEqual(bench.read(Word("ZZ")), Ratio(0))

    def test_means_at_settings(self):
        rng = random.Random(285)
        for _ in range(40):
            bench, model = drawn_bench(self, rng, turns=4)
            angles = helper.some_angles(rng, KNOBS)
            for knob in KNOBS[: rng.randint(0, 3)]:
                bench.fix(knob, *[helper.ratio(n) for n in angles[knob]])
            for letters in helper.all_letters(model.wires)[::3]:
                wanted = helper.mean_at(bench.circuit.text, model.texts, letters, angles)
                self.assertEqual(helper.fraction(bench.mean(Word(letters)).at(helper.setting_of(angles))), wanted)

    def test_what_spreads_tell_goes_along(self):
        bench = Bench(Circuit("wires 1\nturn X by 1 k"), start_of("Z"))
        bench.put(1, "turn Z by 1 m")
        self.assertEqual(spread(bench.circuit, Word("Y")), spread(Circuit("wires 1\nturn X by 1 k\nturn Z by 1 m"), Word("Y")))


class RefusedTest(unittest.TestCase):
    def setUp(self):
        self.bench = Bench(Circuit("wires 2\nturn XI by 1 k\nturn ZI by 1 m\nh 1"), start_of("ZI", "IZ"))
        self.bench.fix("k", Ratio(3, 5), Ratio(4, 5))
        self.bench.put(3, "h 0")
        self.bench.undo()

    def refused(self, kind, value, name, *handed):
        """Refused with this very value, and nothing is changed, also of what can be done again."""
        bench = self.bench
        ahead = (bench.circuit, bench.setting, bench.done, journal(bench))
        refused(self, kind, value, getattr(bench, name), *handed)
        self.assertEqual((bench.circuit, bench.setting, bench.done, journal(bench)), ahead)
        other = bench.copy()
        other.redo()
        self.assertEqual(other.circuit, bench.circuit.put(3, "h 0"))

    def test_start_of_another_size(self):
        for start in (start_of("Z"), start_of("ZZZ", "IZZ", "IIZ"), start_of("ZIII", "IIIZ", "IXII", "IIYI")):
            refused(self, OtherSize, start, Bench, self.bench.circuit, start)

    def test_put(self):
        for place in helper.any_values() + [4, -1, 40, "0", Ratio(0)]:
            if type(place) is not int or not 0 <= place <= 3:
                for line in ("h 0", "h 2", None):
                    self.refused(BadPlace, place, "put", place, line)
        for line in helper.WRONG + helper.any_values() + ["h 0\nh 0"]:
            self.refused(BadLine, line, "put", 0, line)

    def test_put_too_many(self):
        for lines, line, kind, value in (
            (["h 0"] * 40, "h 0", Long, 40), (["h 0"] * 40, "turn XX by 1 k", Long, 40), (["turn XX by 1 k"] * 6, "turn XX by 1 k", Many, 6),
            (["turn XX by 1 k"] * 6 + ["h 0"] * 34, "turn XX by 1 k", Long, 40),
        ):
            bench = Bench(with_lines(2, lines), start_of("ZI", "IZ"))
            with self.assertRaises(kind) as caught:
                bench.put(0, line)
            self.assertEqual(caught.exception.value, value)
            self.assertEqual([bench.done, len(bench)], [0, len(lines)])
            refused_about(self, BadPlace, len(lines) + 1, bench.put, len(lines) + 1, line)
            refused_about(self, BadLine, "h 2", bench.put, 0, "h 2")

    def test_drop_and_exchange(self):
        for value in helper.any_values() + [3, 4, -1, Ratio(0), "0"]:
            if type(value) is not int or not 0 <= value <= 2:
                self.refused(NoLine, value, "drop", value)
                self.refused(NoLine, value, "exchange", value)
        self.refused(NoLine, 2, "exchange", 2)
        self.refused(Unlike, 0, "exchange", 0)
        for circuit in (Circuit("wires 1"), Circuit("wires 1\nh 0")):
            refused(self, NoLine, 0, Bench(circuit, start_of("Z")).exchange, 0)

    def test_fix(self):
        for name in helper.any_values() + list(helper.NO_NAMES):
            if name not in ("k", "same"):
                for c, s in ((1, 0), (1, 1), (None, 0)):
                    self.refused(BadName, name, "fix", name, c, s)
        for c, s in (
            (1, 1), (0, 0), (2, 0), (True, 0), (1, False), ("1", 0), (None, 1), (Ratio(1, 2), Ratio(1, 2)), ([1], 0), (0, (1,)),
            (Ratio(3, 5), Ratio(3, 5)), (Wave(()), 1), (Wave((((), 1, 0),)), 0), (Word("X"), 0), ({}, {}), (Ratio(3, 5), 1),
        ):
            with self.assertRaises(BadAngle) as caught:
                self.bench.fix("k", c, s)
            self.assertIs(type(caught.exception.value), tuple)
            self.assertEqual(len(caught.exception.value), 2)
            self.assertIs(caught.exception.value[0], c)
            self.assertIs(caught.exception.value[1], s)
            self.assertEqual(self.bench.done, 1)
        self.bench.redo()

    def test_loosen(self):
        for value in helper.any_values() + ["m", "zz", ("k",), "kk", ["k"]]:
            if value != "k":
                self.refused(NoKnob, value, "loosen", value)

    def test_undo_redo_and_keep(self):
        bench = Bench(Circuit("wires 1"), start_of("Z"))
        refused_about(self, NothingToUndo, None, bench.undo)
        refused_about(self, NothingToRedo, None, bench.redo)
        refused_about(self, NoTrial, None, bench.keep)
        bench.put(0, "h 0")
        bench.undo()
        refused_about(self, NothingToUndo, None, bench.undo)
        bench.redo()
        refused_about(self, NothingToRedo, None, bench.redo)
        self.assertEqual(bench.done, 1)
        bench.undo()
        bench.put(0, "flip X")
        refused_about(self, NothingToRedo, None, bench.redo)

    def test_mean_and_read(self):
        for act in (self.bench.mean, self.bench.read):
            for value in helper.any_values() + ["ZZ", start_of("ZZ", "IZ")]:
                if not isinstance(value, Word):
                    refused(self, BadWord, value, act, value)
            for text in ("Z", "-ZZZ", "IIII"):
                refused(self, OtherSize, word := Word(text), act, word)

    def test_a_refused_deed_leaves_what_can_be_done_again(self):
        bench = self.bench
        for act in (lambda: bench.put(9, "h 0"), lambda: bench.drop(9), lambda: bench.exchange(0), lambda: bench.fix("K", 1, 0)):
            with self.assertRaises(ValueError):
                act()
        bench.redo()
        self.assertEqual(bench.circuit[3], "h 0")


class InTest(unittest.TestCase):
    def test_values_of_any_kind(self):
        bench = Bench(Circuit("wires 1\nturn X by 1 k 2 turn"), start_of("Z"))
        for value in helper.any_values() + [("k",), ["k"], "kk", "", "K", b"k", bench, bench.start, "turn X by 1 k 2 turn"]:
            self.assertIs(value in bench, value == "k" if isinstance(value, str) else False)
        self.assertIs("turn" in bench, True)


class CopyTest(unittest.TestCase):
    def test_independence(self):
        rng = random.Random(286)
        for _ in range(30):
            bench, model = drawn_bench(self, rng)
            for _ in range(8):
                some_deed(rng, bench, model)
            copy, fork = bench.copy(), model.fork()
            fork.test = self
            self.assertIsInstance(copy, Bench)
            tells(self, copy, fork)
            self.assertTrue(copy == bench)
            for _ in range(8):
                some_deed(rng, *rng.choice(((bench, model), (copy, fork))))
            tells(self, bench, model)
            tells(self, copy, fork)
            self.assertIs(copy == bench, model.text() == fork.text())

    def test_what_can_be_done_again_is_alike(self):
        bench = Bench(Circuit("wires 1"), start_of("Z"))
        bench.put(0, "h 0")
        bench.put(0, "flip X")
        bench.undo()
        copy = bench.copy()
        copy.redo()
        self.assertEqual([len(copy), len(bench)], [2, 1])
        bench.redo()
        self.assertEqual(copy, bench)

    def test_equality(self):
        first, start = Circuit("wires 2\nh 0"), start_of("ZI", "IZ")

        def made(*deeds, circuit=first, start=start):
            bench = Bench(circuit, start)
            for name, *told in deeds:
                getattr(bench, name)(*told)
            return bench

        bench = made(("put", 0, "h 1"), ("fix", "k", 1, 0))
        for other in (
            made(("put", 0, "h 1"), ("fix", "k", Ratio(1), Ratio(0))), made(("put", 0, "h 1"), ("drop", 0), ("undo",), ("fix", "k", 1, 0)),
            made(("put", 0, "h 1"), ("fix", "k", 1, 0), ("loosen", "k"), ("undo",)),
            made(("put", 0, "h 1"), ("fix", "k", 1, 0), circuit=Circuit("wires 2\nh 0"), start=start_of("ZI", "IZ")),
        ):
            self.assertTrue(bench == other)
            self.assertFalse(bench != other)
            self.assertEqual(journal(bench), journal(other))
        for other in (
            made(("put", 0, "h 1")), made(("put", 1, "h 1"), ("fix", "k", 1, 0)), made(("fix", "k", 1, 0), ("put", 0, "h 1")),
            made(("put", 0, "h 1"), ("fix", "k", -1, 0)), made(("put", 0, "h 1"), ("fix", "m", 1, 0)), made(("put", 0, "h 1"), ("fix", "k", 0, 1)),
            made(("put", 0, "h 1"), ("fix", "k", 1, 0), start=start_of("IZ", "ZI")), made(("fix", "k", 1, 0), circuit=Circuit("wires 2\nh 1\nh 0")),
            made(("put", 0, "h 1"), ("fix", "k", 1, 0), ("fix", "k", 1, 0)), made(("put", 0, "h 1"), ("fix", "k", 1, 0), start=start_of("ZI", "-IZ")),
            made(("put", 0, "h 1"), ("fix", "k", 1, 0), circuit=Circuit("wires 2\nh 1")),
        ):
            self.assertFalse(bench == other)
            self.assertTrue(bench != other)
        for value in helper.any_values() + [journal(bench), first, start]:
            self.assertFalse(bench == value)
            self.assertTrue(bench != value)

    def test_by_name(self):
        bench = Bench(start=start_of("Z"), circuit=Circuit("wires 1\nturn X by 1 k\nturn X by 1 m"))
        for act, told in (
            (bench.put, {"line": "h 0", "place": 0}), (bench.drop, {"number": 0}), (bench.exchange, {"number": 0}),
            (bench.fix, {"s": 0, "c": 1, "knob": "k"}), (bench.loosen, {"knob": "k"}),
        ):
            self.assertIsNone(act(**told))
        self.assertEqual(bench.mean(word=Word("X")), bench.mean(Word("X")))
        self.assertEqual(bench.read(word=Word("X")), Ratio(0))
        self.assertEqual(bench.circuit.text, "wires 1\nturn X by 1 m\nturn X by 1 k")


class GreatNumbersTest(unittest.TestCase):
    def test_angles_of_more_figures_than_are_written_out(self):
        bench = Bench(Circuit("wires 1\nturn X by 1 k"), start_of("Z"))
        n = 10 ** 2600
        c, s = Ratio(1 - n * n, 1 + n * n), Ratio(2 * n, 1 + n * n)
        bench.fix("k", c, s)
        self.assertEqual(bench.read(Word("Z")), c)
        self.assertEqual(bench, bench.copy())
        bench.undo()
        bench.redo()
        self.assertEqual(bench.setting, (("k", c, s),))


if __name__ == "__main__":
    unittest.main()
