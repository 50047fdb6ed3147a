"""The desk: section 18."""

import random
import unittest

import helper
from helper import refused, refused_about
from looseknobs.benches import Bench
from looseknobs.desk import Desk
from looseknobs.errors import (
    BadAngle, BadJournal, BadLine, BadName, BadPlace, BadSay, BadWord, KnobError, Long, Loose, Many, NoKnob, NoLine, NothingToRedo,
    NothingToUndo, OtherSize, Unlike,
)
from looseknobs.journals import journal, read_journal
from looseknobs.ratios import Ratio
from looseknobs.seeing import seen
from looseknobs.words import Word
from test_benches import drawn_bench, some_deed

TEXT = "wires 2\nturn XI by 1 k\nturn IX by 2 m\nturn XX by 1 k\nh 1\nstart ZI IZ\ndeeds\nput 4 flip -XY"


class DeskTest(unittest.TestCase):
    def test_its_bench(self):
        desk = Desk(TEXT)
        self.assertIsInstance(desk.bench, Bench)
        self.assertEqual(desk.bench, read_journal(TEXT))
        self.assertEqual(Desk(text=TEXT).bench, desk.bench)
        self.assertEqual(desk.say(line="seen"), "2")

    def test_no_journals(self):
        for value in helper.any_values() + [b"wires 1", [TEXT], desk_bench(), Desk(TEXT)]:
            if not isinstance(value, str):
                refused_about(self, BadJournal, 0, Desk, value)
        for text, number in (
            ("", 1), ("wires 1\nstart X", 3), (TEXT + "\n", 9), (TEXT + "\nundo", 9), (TEXT.replace("put 4", "put 5"), 8),
            (TEXT.replace("ZI IZ", "ZI"), 6), (TEXT.replace("ZI IZ", "-XX"), 6),
        ):
            refused_about(self, BadJournal, number, Desk, text)

    def test_deeds_and_what_takes_them_back(self):
        desk = Desk(TEXT)
        for line, circuit, setting in (
            ("put 0 cx 1 0", "cx 1 0", ()), ("drop 0", "turn XI by 1 k", ()), ("exchange 0", "turn IX by 2 m", ()),
            ("undo", "turn XI by 1 k", ()), ("redo", "turn IX by 2 m", ()), ("fix k -3/5 4/5", "turn IX by 2 m", ("k",)),
            ("fix zz 1 0", "turn IX by 2 m", ("k", "zz")), ("loosen k", "turn IX by 2 m", ("zz",)), ("undo", "turn IX by 2 m", ("k", "zz")),
            ("put 5 turn -ZZ by 1 k -1 m", "turn IX by 2 m", ("k", "zz")), ("put 5 flip ZZ", "turn IX by 2 m", ("k", "zz")),
        ):
            self.assertEqual(desk.say(line), "ok")
            self.assertEqual(desk.bench.circuit[0], circuit)
            self.assertEqual(tuple(row[0] for row in desk.bench.setting), setting)
        self.assertEqual(desk.bench.setting[0], ("k", Ratio(-3, 5), Ratio(4, 5)))
        self.assertEqual(journal(desk.bench).split("\n")[-2:], ["put 5 turn -ZZ by 1 k -1 m", "put 5 flip ZZ"])

    def test_answers_beside_the_plain_functions(self):
        rng = random.Random(311)
        asked = {"read": 0, "Loose": 0}
        for _ in range(40):
            bench, model = drawn_bench(self, rng)
            desk = Desk(journal(bench))
            for _ in range(10):
                some_deed(rng, desk.bench, model)
                word = rng.choice(("", "-")) + rng.choice(helper.all_letters(model.wires))
                wave = desk.bench.mean(Word(word))
                self.assertEqual(desk.say(f"hangs {word}"), " ".join(wave.knobs))
                if wave.knobs:
                    refused_about(self, Loose, wave.knobs[0], desk.say, f"read {word}")
                else:
                    self.assertEqual(desk.say(f"read {word}"), wave.at(()).text)
                asked["Loose" if wave.knobs else "read"] += 1
                self.assertEqual(desk.say("seen"), str(seen(desk.bench.circuit)))
                loose = [knob for knob in desk.bench.circuit.knobs if knob in desk.bench]
                self.assertEqual(desk.say("knobs"), " ".join(loose))
                self.assertEqual(journal(desk.bench), model.text())
        self.assertGreater(min(asked.values()), 40)

    def test_answers_for_none(self):
        desk = Desk("wires 1\nstart Z\ndeeds")
        self.assertEqual([desk.say(line) for line in ("hangs Z", "knobs", "seen", "read -Z", "read X", "read I")], ["", "", "0", "-1", "0", "1"])
        desk = Desk("wires 1\nturn X by 1 b 2 a\nstart Z\ndeeds\nfix a 3/5 4/5")
        self.assertEqual([desk.say(line) for line in ("knobs", "hangs Z", "hangs X", "seen")], ["b", "b", "", "1"])
        desk.say("fix b 1 0")
        self.assertEqual([desk.say(line) for line in ("knobs", "hangs Z", "read Z", "read -Y", "seen")], ["", "", "-7/25", "24/25", "1"])
        for line in ("knobs", "seen", "hangs Y", "read Y", "drop 0"):
            self.assertIs(type(desk.say(line)), str)

    def test_what_the_bench_raises(self):
        desk = Desk(TEXT)
        refused_about(self, NothingToRedo, None, desk.say, "redo")
        for line, kind, value in (
            ("put 6 h 0", BadPlace, 6), ("put -1 h 0", BadPlace, -1), ("put 0 h 2", BadLine, "h 2"), ("put 0 h", BadLine, "h"), ("put 7 undo", BadPlace, 7),
            ("put 0 flip ZZ ZZ", BadLine, "flip ZZ ZZ"),
            ("drop 5", NoLine, 5), ("drop -2", NoLine, -2), ("exchange 4", NoLine, 4), ("exchange 2", Unlike, 2), ("fix K 1 0", BadName, "K"),
            ("fix k 1 1", BadAngle, (Ratio(1), Ratio(1))), ("fix k -1/2 3", BadAngle, (Ratio(-1, 2), Ratio(3))), ("loosen k", NoKnob, "k"),
            ("loosen K", NoKnob, "K"), ("read ZI", Loose, "k"), ("read Q", BadWord, "Q"), ("read zi", BadWord, "zi"), ("hangs --ZI", BadWord, "--ZI"),
            ("hangs ZIZIZ", BadWord, "ZIZIZ"), ("read 0", BadWord, "0"), ("hangs -", BadWord, "-"), ("read Z,I", BadWord, "Z,I"),
        ):
            ahead = journal(desk.bench)
            refused_about(self, kind, value, desk.say, line)
            self.assertEqual(journal(desk.bench), ahead)
        for word in ("Z", "-ZZZ", "IIII"):
            for name in ("read", "hangs"):
                refused_about(self, OtherSize, Word(word), desk.say, f"{name} {word}")
        desk.say("undo")
        refused_about(self, NothingToUndo, None, desk.say, "undo")

    def test_too_many_lines_and_turns(self):
        desk = Desk("\n".join(["wires 1"] + ["h 0"] * 34 + ["turn X by 1 k"] * 6 + ["start Z", "deeds"]))
        refused_about(self, Long, 40, desk.say, "put 0 h 0")
        desk.say("drop 0")
        refused_about(self, Many, 6, desk.say, "put 39 turn X by 1 m")

    def test_lines_that_have_no_such_form(self):
        desk = Desk(TEXT)
        forms = [
            "", " ", "put", "put 0", "put h 0", "put 0 ", "put 0  h 0", " put 0 h 0", "put 0 h 0 ", "put  0 h 0", "PUT 0 h 0", "put +0 h 0",
            "put 00 h 0", "put 1/2 h 0", "put -0 h 0", "put a h 0", "drop", "drop ", "drop 0 0", "drop  0", "drop 0 ", "drop a", "drop 1/2",
            "drop 01", "exchange", "exchange 0 1", "exchange x", "exchange 0 ", " exchange 0", "fix", "fix k", "fix k 1", "fix k 1 0 ",
            "set k 1 0", "place 0 h 0", "free k", "remove 0", "fix k 1 0 0", "fix k  1 0", "fix k 2/2 0", "fix k 1 -0", "fix k a b", "fix k 1.0 0", "loosen", "loosen ", "loosen k k", "loosen  k",
            "undo ", " undo", "undo 1", "undo undo", "redo ", " redo", "redo 1", "Undo", "read", "read ", "read  ZI", "read ZI ", " read ZI",
            "read ZI IZ", "READ ZI", "readZI", "hangs", "hangs ", "hangs  ZI", "hangs ZI ", "hangs ZI ZI", "seen ", " seen", "seen k", "seen 1",
            "Seen", "knobs ", " knobs", "knobs k", "knob", "deeds", "start ZI IZ", "wires 2", "h 0", "turn XX by 1 k", "keep", "trial", "mean ZI",
            "put 0 h 0\n", "\nundo", "undo\n", "undo\nredo", "read ZI\n", "drop\n0", "\n", "# undo", "undo;", "done", "copy", "journal",
        ]
        ahead = journal(desk.bench)
        for line in forms:
            refused(self, BadSay, line, desk.say, line)
            self.assertEqual(journal(desk.bench), ahead)
        for value in helper.any_values() + [b"undo", ["undo"], ("undo",), desk.bench, desk]:
            if not isinstance(value, str) or " " not in value and value not in ("undo", "redo", "seen", "knobs"):
                refused(self, BadSay, value, desk.say, value)
        self.assertEqual(journal(desk.bench), ahead)

    def test_what_is_said_is_what_is_done_at_the_bench(self):
        rng = random.Random(312)
        for _ in range(30):
            bench, model = drawn_bench(self, rng)
            for _ in range(12):
                some_deed(rng, bench, model)
            lines = journal(bench).split("\n")
            at = lines.index("deeds") + 1
            desk = Desk("\n".join(lines[:at]))
            for line in lines[at:]:
                self.assertEqual(desk.say(line), "ok")
            self.assertEqual(desk.bench, bench)
            for _ in lines[at:]:
                desk.say("undo")
            self.assertEqual(desk.bench.done, 0)

    def test_all_that_it_raises_is_a_knob_error(self):
        desk = Desk(TEXT)
        for line in ("", "drop 9", "read Q", "read ZI", "redo"):
            with self.assertRaises(KnobError):
                desk.say(line)


def desk_bench():
    return Desk(TEXT).bench


if __name__ == "__main__":
    unittest.main()
