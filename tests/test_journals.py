"""Journals: section 18 and guarantee (f)."""

import random
import unittest

import helper
from helper import refused_about
from looseknobs.benches import Bench
from looseknobs.circuits import Circuit
from looseknobs.errors import BadJournal, NothingToRedo
from looseknobs.journals import journal, read_journal
from looseknobs.ratios import Ratio
from looseknobs.starts import Start
from looseknobs.words import Word
from test_benches import drawn_bench, some_deed, tells

HEAD = ["wires 2", "turn XI by 1 k", "h 0", "start ZI IZ", "deeds"]


def wrong(test, lines, number):
    """This line, from 1 on, is the first wrong one of a journal."""
    text = lines if isinstance(lines, str) else "\n".join(lines)
    refused_about(test, BadJournal, number, read_journal, text)


class WrittenTest(unittest.TestCase):
    def test_each_deed(self):
        bench = Bench(Circuit("wires 2\nturn XI by 1 k\nh 1"), Start((Word("-ZI"), Word("ZZ"))))
        bench.put(0, "flip -XY")
        bench.exchange(1)
        bench.fix("k", Ratio(3, 5), Ratio(-4, 5))
        bench.fix("abc", 0, -1)
        bench.put(3, "turn IZ by 2 a -1 b")
        bench.loosen("k")
        bench.drop(1)
        bench.drop(0)
        bench.undo()
        wanted = [
            "wires 2", "turn XI by 1 k", "h 1", "start -ZI ZZ", "deeds", "put 0 flip -XY", "exchange 1", "fix k 3/5 -4/5",
            "fix abc 0 -1", "put 3 turn IZ by 2 a -1 b", "loosen k", "drop 1",
        ]
        self.assertEqual(journal(bench), "\n".join(wanted))
        self.assertEqual(read_journal(journal(bench)), bench)

    def test_without_deeds_and_lines(self):
        for words in (("Z",), ("-Y",)):
            bench = Bench(Circuit("wires 1"), Start(tuple(Word(text) for text in words)))
            self.assertEqual(journal(bench), f"wires 1\nstart {words[0]}\ndeeds")
            self.assertEqual(read_journal(journal(bench)), bench)
        words = tuple(Word(text) for text in ("ZIII", "-IXXI", "IZZI", "IIIY"))
        bench = Bench(Circuit("wires 4"), Start(words))
        self.assertEqual(read_journal(journal(bench)).start.words, words)

    def test_drawn_ones(self):
        rng = random.Random(301)
        for _ in range(60):
            bench, model = drawn_bench(self, rng)
            for _ in range(rng.randint(0, 25)):
                some_deed(rng, bench, model)
            text = journal(bench)
            self.assertIs(type(text), str)
            self.assertEqual(text, model.text())
            again = read_journal(text)
            self.assertIsInstance(again, Bench)
            self.assertTrue(again == bench)
            self.assertEqual(journal(again), text)
            refused_about(self, NothingToRedo, None, again.redo)
            model.taken = []
            tells(self, again, model, ("Z" * model.wires,))
            for _ in range(len(model.steps)):
                again.undo()
                model.undo()
            tells(self, again, model)

    def test_of_the_very_size(self):
        bench = Bench(Circuit(helper.large_text(95)), Start(tuple(Word(text) for text in helper.first_words(4)[1::2])))
        number = 0
        while len(journal(bench)) < 3950:
            bench.fix("k", Ratio(3, 5), Ratio(4, 5))
            number += 1
        self.assertEqual(read_journal(journal(bench)).done, number)

    def test_great_fractions(self):
        n = 10 ** 150 + 7
        c, s = Ratio(1 - n * n, 1 + n * n), Ratio(2 * n, 1 + n * n)
        bench = Bench(Circuit("wires 1\nturn X by 1 k"), Start((Word("Z"),)))
        bench.fix("k", c, s)
        text = journal(bench)
        self.assertEqual(text.split("\n")[-1], f"fix k {c.text} {s.text}")
        again = read_journal(text)
        self.assertEqual([again, again.read(Word("Z"))], [bench, c])

    def test_by_name(self):
        bench = Bench(Circuit("wires 1"), Start((Word("Z"),)))
        self.assertEqual(read_journal(text=journal(bench=bench)), bench)


class WrongTest(unittest.TestCase):
    def test_right_ones(self):
        for more in ([], ["put 0 h 0"], ["drop 1", "put 1 cx 0 1", "exchange 0", "undo"][:2], ["fix zz -3/5 4/5", "loosen zz"]):
            self.assertIsInstance(read_journal("\n".join(HEAD + more)), Bench)

    def test_no_strings(self):
        for value in helper.any_values() + [HEAD, tuple(HEAD), b"wires 1", Bench(Circuit("wires 1"), Start((Word("Z"),)))]:
            if not isinstance(value, str):
                with self.assertRaises(BadJournal) as caught:
                    read_journal(value)
                self.assertEqual([caught.exception.value, type(caught.exception.value)], [0, int])

    def test_lines_of_the_circuit(self):
        wrong(self, "", 1)
        wrong(self, "\n", 1)
        wrong(self, "deeds", 1)
        wrong(self, "start Z", 1)
        wrong(self, ["start Z", "deeds"], 1)
        wrong(self, ["deeds", "start Z"], 1)
        wrong(self, ["wires 5", "start Z", "deeds"], 1)
        wrong(self, ["", "wires 1", "start Z", "deeds"], 1)
        wrong(self, ["Wires 1", "start Z", "deeds"], 1)
        wrong(self, ["start", "wires 1", "start Z", "deeds"], 1)
        for line in helper.WRONG:
            if isinstance(line, str) and not line.startswith("start ") and line != "deeds" and "\n" not in line:
                wrong(self, HEAD[:2] + [line] + HEAD[2:], 3)
        wrong(self, ["wires 1"] + ["h 0"] * 41 + ["start Z", "deeds"], 42)
        wrong(self, ["wires 1"] + ["turn X by 1 k"] * 7 + ["start Z", "deeds"], 8)
        wrong(self, ["wires 1", "start", "deeds"], 2)
        wrong(self, ["wires 1", " start Z", "deeds"], 2)
        wrong(self, ["wires 1", "deeds ", "start Z", "deeds"], 2)
        wrong(self, ["wires 1", "h 0", "h 1", "start Q", "nothing"], 3)

    def test_missing_lines(self):
        wrong(self, "wires 1", 2)
        wrong(self, ["wires 1", "h 0", "h 0"], 4)
        wrong(self, ["wires 1", "start Z"], 3)
        wrong(self, HEAD[:4], 5)
        wrong(self, HEAD[:3], 4)

    def test_line_feeds_at_the_end(self):
        for many in range(1, 4):
            wrong(self, "\n".join(HEAD[:many]) + "\n", many + 1)
        wrong(self, "\n".join(HEAD[:4]) + "\n", 5)
        wrong(self, "\n".join(HEAD) + "\n", 6)
        wrong(self, "\n".join(HEAD + ["put 0 h 0"]) + "\n", 7)
        wrong(self, "\n".join(HEAD + ["put 0 h 0"]) + "\n\n", 7)
        wrong(self, HEAD + ["", "put 0 h 0"], 6)

    def test_the_start(self):
        for line in (
            "deeds", "start ", "start Z", "start ZI ", "start  ZI IZ", "start ZI  IZ", "start ZI XI", "start ZI ZI", "start ZI -II", "start ZI IZ ZZ",
            "start II", "start zi iz", "start ZI,IZ", "start --ZI", "start +ZI", "start ZII IZI", "start ZI Z", "start ZI IZ deeds",
            "start Z Z Z Z Z", "start XX ZZ -YY", "start 1", "start ZI\tIZ", "start ZI", "start -YX", "start ZZ", "start ZII IZI IIZ",
        ):
            wrong(self, HEAD[:3] + [line] + HEAD[4:], 4)
            wrong(self, HEAD[:3] + [line], 4)
        wrong(self, HEAD[:3] + ["deeds", "start ZI IZ", "deeds"], 4)
        for line in ("start ZI IZ", "start -XX ZZ", "start -YX XY"):
            self.assertEqual(journal(read_journal("\n".join(HEAD[:3] + [line, "deeds"]))).split("\n")[3], line)

    def test_starts_of_fewer_words_than_wires(self):
        for wires, rows in ((2, ("ZI", "-YI", "XX")), (3, ("ZII", "ZII IZI", "-XXX ZZI")), (4, ("ZIII IZII IIZI", "XXXX ZZZZ", "IIIY"))):
            for row in rows:
                wrong(self, [f"wires {wires}", f"start {row}", "deeds"], 2)
                wrong(self, [f"wires {wires}", "h 0", "flip " + "X" * wires, f"start {row}", "deeds", "put 0 h 1"], 4)

    def test_the_line_deeds(self):
        for line in ("", "deeds ", " deeds", "Deeds", "deed", "start ZI IZ", "put 0 h 0", "deeds deeds", "deeds 1"):
            wrong(self, HEAD[:4] + [line], 5)
            wrong(self, HEAD[:4] + [line, "deeds", "put 0 h 0"], 5)

    def test_forms_of_deeds(self):
        forms = [
            "", " ", "put", "put 0", "put 0 ", "put h 0", "put 0  h 0", " put 0 h 0", "put 0 h 0 ", "put  0 h 0", "Put 0 h 0", "put +0 h 0",
            "put 00 h 0", "put 0/1 h 0", "put 1/2 h 0", "put -0 h 0", "put 0. h 0", "put a h 0", "drop", "drop ", "drop 0 0", "drop  0",
            "drop 0 ", "drop a", "drop 1/2", "drop 01", "drop +1", "drop 2/2", "exchange", "exchange 0 1", "exchange x", "exchange 1/3",
            "exchange 0 ", "fix", "fix k", "fix k 1", "fix k 1 0 ", "fix k 1 0 0", "fix k  1 0", "fix 1 0", "fix k 2/2 0", "fix k 1 -0",
            "fix k 1 0/1", "fix k 3/5 8/10", "set k 1 0", "fixed k 1 0", "place 0 h 0", "free k", "remove 0", "fix k 1.0 0", "fix k a b", "fix  k 1 0", "loosen", "loosen ", "loosen k k", "loosen  k",
            "undo", "redo", "read ZI", "hangs ZI", "seen", "knobs", "deeds", "start ZI IZ", "h 0", "keep", "trial", "wires 2", "# put 0 h 0",
        ]
        for line in forms:
            wrong(self, HEAD + [line], 6)
            wrong(self, HEAD + ["put 0 h 0", line, "drop 0"], 7)
            wrong(self, HEAD + ["fix k 1 0", line, line], 7)

    def test_deeds_that_are_refused(self):
        for line in (
            "put 3 h 0", "put -1 h 0", "put 0 h 2", "put 0 h", "put 0 drop 0", "put 0 h 0 0", "put 0 start ZI", "put 0 deeds", "put 0 turn XI by 5 k", "put 0 flip X",
            "drop 2", "drop -1", "exchange 0", "exchange 1", "exchange -1", "exchange 2", "fix K 1 0", "fix abcdefghi 1 0", "fix k1 1 0",
            "fix k 1 1", "fix k 3/5 3/5", "fix k 0 0", "loosen k", "loosen K", "loosen 1",
        ):
            wrong(self, HEAD + [line], 6)
            wrong(self, HEAD + ["put 0 h 1", "drop 0", line], 8)
        wrong(self, HEAD + ["fix k 1 0", "loosen k", "loosen k"], 8)
        wrong(self, HEAD + ["put 0 h 1", "exchange 1", "exchange 0"], 7)
        self.assertEqual(read_journal("\n".join(HEAD + ["put 0 h 1", "exchange 0", "drop 1"])).done, 3)
        wrong(self, ["wires 1"] + ["h 0"] * 39 + ["start Z", "deeds", "put 0 h 0", "put 40 h 0"], 44)
        wrong(self, ["wires 1"] + ["turn X by 1 k"] * 6 + ["start Z", "deeds", "put 0 h 0", "put 0 turn X by 1 k"], 11)

    def test_lines_cut_out_of_drawn_journals(self):
        rng = random.Random(302)
        for _ in range(30):
            bench, model = drawn_bench(self, rng)
            for _ in range(12):
                some_deed(rng, bench, model)
            lines = journal(bench).split("\n")
            cut = rng.randrange(len(lines))
            at = lines.index("deeds")
            if cut <= at:
                wrong(self, lines[:cut], max(1, cut + 1))
            else:
                self.assertEqual(read_journal("\n".join(lines[:cut])).done, cut - at - 1)
            wrong(self, lines[:cut] + ["nothing"] + lines[cut:], cut + 1)


if __name__ == "__main__":
    unittest.main()
