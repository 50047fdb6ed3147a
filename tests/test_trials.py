"""Trials at a bench: section 17 and guarantee (f)."""

import random
import unittest

import helper
from helper import refused_about
from looseknobs.benches import Bench
from looseknobs.circuits import Circuit
from looseknobs.errors import NothingToRedo, NothingToUndo, NoLine, NoTrial
from looseknobs.journals import journal
from looseknobs.ratios import Ratio
from looseknobs.starts import Start
from looseknobs.words import Word
from test_benches import Model, drawn_bench, some_deed, tells


class Left(Exception):
    """What a block is left by in these tests."""


def bench_of(*lines):
    return Bench(Circuit("\n".join(["wires 1"] + list(lines))), Start((Word("Z"),)))


def lines_of(bench):
    return bench.circuit.text.split("\n")[1:]


class TrialTest(unittest.TestCase):
    def setUp(self):
        self.bench = bench_of("turn X by 1 k")
        self.bench.put(1, "h 0")
        self.bench.fix("k", 0, 1)
        self.bench.put(2, "flip X")
        self.bench.undo()
        self.ahead = (journal(self.bench), self.bench.setting, self.bench.circuit)

    def is_as_it_was(self):
        self.assertEqual((journal(self.bench), self.bench.setting, self.bench.circuit), self.ahead)
        other = self.bench.copy()
        other.redo()
        self.assertEqual(lines_of(other), ["turn X by 1 k", "h 0", "flip X"])
        refused_about(self, NothingToRedo, None, other.redo)
        refused_about(self, NoTrial, None, self.bench.keep)

    def test_not_kept(self):
        with self.bench.trial() as held:
            self.assertIs(held, self.bench)
            held.put(0, "h 0")
            held.fix("m", 1, 0)
            held.loosen("k")
            self.assertEqual([len(held), held.done, held.setting], [3, 5, (("m", Ratio(1), Ratio(0)),)])
        self.is_as_it_was()

    def test_nothing_done_in_it(self):
        with self.bench.trial():
            pass
        self.is_as_it_was()

    def test_kept(self):
        with self.bench.trial() as held:
            held.put(0, "h 0")
            self.assertIsNone(held.keep())
            held.put(0, "flip Z")
        self.assertEqual(lines_of(self.bench), ["flip Z", "h 0", "turn X by 1 k", "h 0"])
        refused_about(self, NoTrial, None, self.bench.keep)
        refused_about(self, NothingToRedo, None, self.bench.redo)
        for _ in range(2):
            self.bench.undo()
        self.assertEqual(journal(self.bench), self.ahead[0])
        self.bench.redo()
        self.assertEqual(lines_of(self.bench), ["h 0", "turn X by 1 k", "h 0"])

    def test_kept_with_nothing_done_or_undone_deeds(self):
        with self.bench.trial():
            self.bench.keep()
        self.is_as_it_was()
        with self.bench.trial():
            self.bench.undo()
            self.bench.keep()
        self.assertEqual([self.bench.done, self.bench.setting], [1, ()])
        self.bench.redo()
        self.is_as_it_was()

    def test_undo_and_redo_go_on_to_what_was_done_ahead(self):
        with self.bench.trial():
            self.bench.undo()
            self.bench.undo()
            self.assertEqual([self.bench.done, lines_of(self.bench)], [0, ["turn X by 1 k"]])
            refused_about(self, NothingToUndo, None, self.bench.undo)
            for _ in range(3):
                self.bench.redo()
            self.assertEqual(lines_of(self.bench), ["turn X by 1 k", "h 0", "flip X"])
            refused_about(self, NothingToRedo, None, self.bench.redo)
            self.bench.undo()
            self.bench.undo()
            self.bench.drop(0)
            refused_about(self, NothingToRedo, None, self.bench.redo)
        self.is_as_it_was()

    def test_left_by_an_error(self):
        with self.assertRaises(Left):
            with self.bench.trial():
                self.bench.drop(0)
                raise Left
        self.is_as_it_was()

    def test_kept_and_then_left_by_an_error(self):
        with self.assertRaises(Left):
            with self.bench.trial():
                self.bench.drop(0)
                self.bench.keep()
                raise Left
        self.is_as_it_was()

    def test_left_by_what_the_bench_refuses(self):
        with self.assertRaises(NoLine) as caught:
            with self.bench.trial():
                self.bench.drop(0)
                self.bench.keep()
                self.bench.drop(7)
        self.assertEqual(caught.exception.value, 7)
        self.is_as_it_was()

    def test_errors_that_do_not_leave_the_block(self):
        with self.bench.trial():
            self.bench.drop(0)
            self.bench.keep()
            with self.assertRaises(NoLine):
                self.bench.drop(7)
        self.assertEqual(lines_of(self.bench), ["h 0"])

    def test_what_leaves_without_an_error(self):
        for _ in range(2):
            with self.bench.trial():
                self.bench.drop(0)
                break
        self.is_as_it_was()

        def returned():
            with self.bench.trial():
                self.bench.drop(0)
                self.bench.keep()
                return len(self.bench)

        self.assertEqual(returned(), 1)
        self.assertEqual(lines_of(self.bench), ["h 0"])

    def test_a_trial_that_is_not_entered(self):
        trial = self.bench.trial()
        self.is_as_it_was()
        self.bench.drop(0)
        with trial as held:
            held.drop(0)
        self.assertEqual(lines_of(self.bench), ["h 0"])

    def test_keep_belongs_to_the_innermost_block(self):
        with self.bench.trial():
            self.bench.drop(0)
            with self.bench.trial():
                self.bench.put(0, "flip Y")
                self.bench.keep()
            self.assertEqual(lines_of(self.bench), ["flip Y", "h 0"])
        self.is_as_it_was()
        with self.bench.trial():
            self.bench.drop(0)
            with self.bench.trial():
                self.bench.put(0, "flip Y")
            self.assertEqual(lines_of(self.bench), ["h 0"])
            self.bench.keep()
        self.assertEqual(lines_of(self.bench), ["h 0"])

    def test_keep_ahead_of_an_inner_block(self):
        with self.bench.trial():
            self.bench.keep()
            self.bench.drop(0)
            with self.bench.trial():
                self.bench.drop(0)
            self.assertEqual(len(self.bench), 1)
        self.assertEqual(lines_of(self.bench), ["h 0"])

    def test_inner_error_caught_in_the_outer_block(self):
        with self.bench.trial():
            self.bench.drop(0)
            with self.assertRaises(Left):
                with self.bench.trial():
                    self.bench.drop(0)
                    self.bench.keep()
                    raise Left
            self.assertEqual(lines_of(self.bench), ["h 0"])
            self.bench.keep()
        self.assertEqual(lines_of(self.bench), ["h 0"])

    def test_copies_made_within_a_block(self):
        with self.bench.trial():
            self.bench.drop(0)
            copy = self.bench.copy()
            self.assertTrue(copy == self.bench)
            refused_about(self, NoTrial, None, copy.keep)
            with copy.trial():
                copy.drop(0)
                copy.keep()
        self.is_as_it_was()
        self.assertEqual(lines_of(copy), [])
        copy.undo()
        copy.undo()
        self.assertEqual(journal(copy), self.ahead[0])

    def test_blocks_at_two_benches(self):
        other = bench_of("h 0")
        with self.bench.trial(), other.trial():
            self.bench.drop(0)
            other.drop(0)
            other.keep()
        self.is_as_it_was()
        self.assertEqual(lines_of(other), [])

    def test_deep_blocks(self):
        for keeping in range(8):
            bench = bench_of()

            def go(level):
                with bench.trial():
                    bench.put(0, "h 0")
                    if level < 7:
                        go(level + 1)
                    if level >= keeping:
                        bench.keep()

            go(0)
            self.assertEqual(len(bench), 0 if keeping else 8)


class TriedTest(unittest.TestCase):
    def setUp(self):
        self.bench = bench_of("turn X by 1 k", "h 0")

    def dropped(self, bench):
        bench.drop(0)
        return bench.circuit.text

    def test_what_it_returns(self):
        for value in helper.any_values() + [self.bench, object()]:
            self.assertIs(self.bench.tried(lambda bench: value), value)
        self.assertIsNone(self.bench.tried(lambda bench: None))
        self.assertIs(self.bench.tried(lambda bench: bench), self.bench)

    def test_not_kept_unless_keep_is_true(self):
        for keep in (False, 1, "yes", None, 0, [True], (True,), "True", Ratio(1), 2, {}):
            self.assertEqual(self.bench.tried(self.dropped, keep=keep), "wires 1\nh 0")
            self.assertEqual([len(self.bench), self.bench.done], [2, 0])
        self.assertEqual(self.bench.tried(self.dropped), "wires 1\nh 0")
        self.assertEqual([len(self.bench), self.bench.done], [2, 0])
        self.assertEqual(self.bench.tried(self.dropped, keep=True), "wires 1\nh 0")
        self.assertEqual([len(self.bench), self.bench.done], [1, 1])
        refused_about(self, NoTrial, None, self.bench.keep)

    def test_keep_is_told_by_name(self):
        with self.assertRaises(TypeError):
            self.bench.tried(self.dropped, True)
        self.assertEqual(self.bench.tried(look=self.dropped, keep=False), "wires 1\nh 0")
        self.assertEqual(len(self.bench), 2)

    def test_a_look_that_keeps(self):
        def look(bench):
            bench.keep()
            return self.dropped(bench)

        self.assertEqual(self.bench.tried(look), "wires 1\nh 0")
        self.assertEqual(len(self.bench), 1)
        self.bench.undo()
        self.bench.tried(look, keep=False)
        self.assertEqual(len(self.bench), 1)

    def test_a_look_that_keeps_a_block_of_its_own(self):
        def look(bench):
            with bench.trial():
                bench.drop(0)
                bench.keep()
            return len(bench)

        self.assertEqual(self.bench.tried(look), 1)
        self.assertEqual(len(self.bench), 2)
        self.assertEqual(self.bench.tried(look, keep=True), 1)
        self.assertEqual(len(self.bench), 1)

    def test_errors_pass_on(self):
        def look(bench):
            bench.drop(0)
            bench.keep()
            raise Left

        def refusing(bench):
            bench.drop(0)
            bench.drop(7)

        for keep in (True, False):
            with self.assertRaises(Left):
                self.bench.tried(look, keep=keep)
            with self.assertRaises(NoLine):
                self.bench.tried(refusing, keep=keep)
            self.assertEqual([len(self.bench), self.bench.done], [2, 0])
            refused_about(self, NoTrial, None, self.bench.keep)

    def test_nested(self):
        def outer(bench):
            bench.tried(self.dropped, keep=True)
            return bench.tried(self.dropped)

        self.assertEqual(self.bench.tried(outer), "wires 1")
        self.assertEqual(len(self.bench), 2)
        self.assertEqual(self.bench.tried(outer, keep=True), "wires 1")
        self.assertEqual(len(self.bench), 1)


class DrawnTest(unittest.TestCase):
    def go(self, rng, bench, model, level):
        """Drawn deeds, and blocks within blocks, beside the model."""
        for _ in range(rng.randint(1, 4)):
            some_deed(rng, bench, model)
        if level < 4 and rng.random() < 0.8:
            kind = rng.choice(("left", "kept", "error", "kept error", "tried", "tried kept"))
            within = model.fork()
            within.test = self
            if kind.startswith("tried"):
                bench.tried(lambda held: self.go(rng, held, within, level + 1), keep=kind == "tried kept")
            else:
                try:
                    with bench.trial() as held:
                        self.go(rng, held, within, level + 1)
                        if "kept" in kind:
                            held.keep()
                        if "error" in kind:
                            raise Left
                except Left:
                    pass
            if kind in ("kept", "tried kept"):
                model.steps, model.taken = within.steps, within.taken
            tells(self, bench, model)
            for _ in range(rng.randint(0, 3)):
                some_deed(rng, bench, model)
        tells(self, bench, model)

    def test_beside_a_model(self):
        rng = random.Random(291)
        for _ in range(60):
            bench, model = drawn_bench(self, rng)
            self.assertIsInstance(model, Model)
            for _ in range(3):
                self.go(rng, bench, model, 0)


if __name__ == "__main__":
    unittest.main()
