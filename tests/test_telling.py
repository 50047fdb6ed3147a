"""Which circuit it was: section 15."""

import random
import unittest

import helper
from helper import refused, refused_about
from looseknobs.circuits import Circuit
from looseknobs.errors import BadLooks, BadSuspects, Settled
from looseknobs.likeness import same
from looseknobs.ratios import Ratio
from looseknobs.starts import Start, alike_from
from looseknobs.tables import behind, table_of
from looseknobs.telling import left, look, shows_look
from looseknobs.waves import Wave
from looseknobs.words import Word


def start_of(texts):
    return Start(tuple(Word(text) for text in texts))


def knobs_of(suspects):
    return sorted({knob for circuit in suspects for knob in circuit.knobs})


def same_by_other_lines(rng, circuit):
    """A circuit that does the same, by other lines."""
    lines = helper.lines_of(circuit)
    place = rng.randrange(len(lines) + 1)
    fixed = helper.some_fixed(rng, circuit.wires)
    lines[place:place] = [fixed, (~helper.with_lines(circuit.wires, [fixed]))[0]]
    return helper.with_lines(circuit.wires, lines)


def some_suspects(rng, many, turns=3):
    """Drawn circuits of one size; some do the same by other lines."""
    wires = rng.randint(1, 3)
    found = []
    while len(found) < many:
        if found and rng.random() < 0.4:
            found.append(same_by_other_lines(rng, rng.choice(found)))
        else:
            found.append(Circuit(helper.some_text(rng, wires, rng.randint(0, 3), rng.randint(0, turns), "abc", 2)))
    return tuple(found)


def some_look(rng, suspects, number=None, more=()):
    """A look that is right for the suspect with this number, or for none; with texts for the test's own reckoning."""
    wires = suspects[0].wires
    angles = helper.some_angles(rng, knobs_of(suspects) + list(more), rng.random() < 0.7)
    texts = helper.some_start(rng, wires)
    word = rng.choice(("", "-")) + rng.choice(helper.all_letters(wires))
    read = helper.Fraction(7, 3) if number is None else helper.mean_at(suspects[number].text, texts, word, angles)
    return (helper.setting_of(angles), start_of(texts), Word(word), helper.ratio(read)), (angles, texts, word, read)


def by_hand(suspects, told):
    """The classes: told are looks as (angles, texts of a start, text of a word, fraction)."""
    rows = []
    for number, circuit in enumerate(suspects):
        if all(helper.mean_at(circuit.text, texts, word, angles) == read for angles, texts, word, read in told):
            for row in rows:
                if same(suspects[row[0]], circuit) == ("same",):
                    row.append(number)
                    break
            else:
                rows.append([number])
    return tuple(tuple(row) for row in rows)


class LeftTest(unittest.TestCase):
    def test_without_looks(self):
        rng = random.Random(261)
        together = 0
        for number in range(60):
            suspects = some_suspects(rng, 1 + number % 8)
            got = left(suspects, ())
            self.assertEqual(got, by_hand(suspects, []))
            self.assertIs(type(got), tuple)
            for row in got:
                self.assertIs(type(row), tuple)
                self.assertEqual([type(n) for n in row], [int] * len(row))
            self.assertEqual(sorted(n for row in got for n in row), list(range(len(suspects))))
            together += len(got) < len(suspects)
        self.assertGreater(together, 20)

    def test_with_drawn_looks(self):
        rng = random.Random(262)
        fewer = 0
        for number in range(80):
            suspects = some_suspects(rng, 1 + number % 8)
            hidden = rng.randrange(len(suspects))
            pairs = [some_look(rng, suspects, hidden, rng.choice(((), ("zz",)))) for _ in range(rng.randint(0, 3))]
            looks, told = tuple(pair[0] for pair in pairs), [pair[1] for pair in pairs]
            got = left(suspects, looks)
            self.assertEqual(got, by_hand(suspects, told))
            self.assertTrue(any(hidden in row for row in got))
            fewer += len(got) < len(left(suspects, ()))
        self.assertGreater(fewer, 15)

    def test_looks_that_no_suspect_fits(self):
        rng = random.Random(263)
        for number in range(8):
            suspects = some_suspects(rng, 1 + number)
            looks = (some_look(rng, suspects, 0)[0], some_look(rng, suspects)[0])
            self.assertEqual(left(suspects, looks), ())
            self.assertEqual(left(suspects, looks[::-1]), ())
            refused_about(self, Settled, None, look, suspects, looks)

    def test_sequence_of_classes(self):
        one, other, third = Circuit("wires 1\nh 0"), Circuit("wires 1"), Circuit("wires 1\nturn X by 1 k")
        back = Circuit("wires 1\nh 0\nh 0")
        self.assertEqual(left((one, other, one, back, third, other), ()), ((0, 2), (1, 3, 5), (4,)))
        setting = (("k", Ratio(3, 5), Ratio(4, 5)),)
        seen = (setting, start_of(["Z"]), Word("Z"), 1)
        self.assertEqual(left((one, other, one, back, third, other), (seen,)), ((1, 3, 5),))
        self.assertEqual(left((third, other, one, back, third, other), (seen[:3] + (Ratio(3, 5),),)), ((0, 4),))

    def test_integers_and_ratios(self):
        suspects = (Circuit("wires 1"), Circuit("wires 1\nflip X"))
        for number in (1, Ratio(1)):
            self.assertEqual(left(suspects, (((), start_of(["Z"]), Word("Z"), number),)), ((0,),))
            self.assertEqual(left(suspects, (((), start_of(["Z"]), Word("-Z"), number),)), ((1,),))
        self.assertEqual(left(suspects, (((("x", 0, 1),), start_of(["X"]), Word("X"), 1),)), ((0,), (1,)))

    def test_the_largest(self):
        rng = random.Random(264)
        one, other = Circuit(helper.large_text(80)), Circuit(helper.large_text(81))
        less = one.without(next(number for number in range(40) if number not in one.turns))
        suspects = (one, other, one.without(one.turns[1]), ~one, less, other, ~other, one)
        looks, told = zip(*[some_look(rng, suspects, 0) for _ in range(8)])
        self.assertEqual(left(suspects, looks), by_hand(suspects, told))
        self.assertEqual(left(suspects, ()), by_hand(suspects, []))


class LookTest(unittest.TestCase):
    def parts(self, suspects, looks):
        """What look tells parts the classes, by the test's own reckoning."""
        told = look(suspects, looks)
        self.assertIs(type(told), tuple)
        setting, start, word = told
        helper.check_setting(self, setting, knobs_of(suspects))
        self.assertIsInstance(start, Start)
        self.assertIsInstance(word, Word)
        self.assertEqual([start.wires, len(word)], [suspects[0].wires] * 2)
        texts, angles = [one.text for one in start.words], helper.angles_of(setting)
        rows = left(suspects, looks)
        found = {helper.mean_at(suspects[row[0]].text, texts, word.text, angles) for row in rows}
        self.assertGreater(len(found), 1)
        self.assertIs(shows_look(suspects, looks, told), True)
        self.assertEqual(look(suspects, looks), told)

    def test_drawn_ones(self):
        rng = random.Random(265)
        parted = 0
        for number in range(80):
            suspects = some_suspects(rng, 1 + number % 8)
            looks = tuple(some_look(rng, suspects, 0)[0] for _ in range(rng.randint(0, 2)))
            if len(left(suspects, looks)) < 2:
                refused_about(self, Settled, None, look, suspects, looks)
                for value in (None, ((), start_of(["Z"]), Word("Z"))):
                    refused_about(self, Settled, None, shows_look, suspects, looks, value)
            else:
                self.parts(suspects, looks)
                parted += 1
        self.assertGreater(parted, 40)

    def test_classes_that_agree_from_many_starts(self):
        for lines, others in (
            (["turn Z by 1 k"], []), (["flip Z"], []), (["turn X by 4 k"], []), (["turn X by 1 k"], ["turn X by -1 k"]),
            (["turn X by 4 a", "turn Z by 4 b", "turn X by -4 a", "turn Z by -4 b"], []),
        ):
            one, other = (helper.with_lines(1, told) for told in (lines, others))
            self.parts((one, other), ())
            self.parts((other, one, other), ())
        for lines, others in (
            (["turn ZZ by 3 k"], []), (["cz 0 1"], []), (["flip ZI"], ["flip IZ"]), (["turn ZZ by 1 k"], ["turn ZZ by -1 k"]),
            (["quarter YY"], ["quarter -YY"]), (["turn XX by 2 k", "turn ZZ by 1 m"], ["turn ZZ by 1 m"]), (["flip YX"], []),
        ):
            one, other = (helper.with_lines(2, told) for told in (lines, others))
            self.parts((one, other), ())
        one, other = Circuit("wires 4\nturn ZZZZ by 4 k"), Circuit("wires 4\nturn ZZZZ by 4 m")
        self.assertEqual(alike_from(one, other, start_of(["ZIII", "IZII", "IIZI", "IIIZ"])), ("same",))
        self.parts((one, other, Circuit("wires 4")), ())

    def test_looks_that_part_some_classes(self):
        suspects = tuple(Circuit("wires 1\n" + text) for text in ("turn X by 1 k", "turn Y by 1 k", "turn Z by 1 k", "turn X by -1 k"))
        setting = (("k", Ratio(3, 5), Ratio(4, 5)),)
        seen = (setting, start_of(["Z"]), Word("Z"), Ratio(3, 5))
        self.assertEqual(left(suspects, (seen,)), ((0,), (1,), (3,)))
        self.parts(suspects, (seen,))
        more = (setting, start_of(["Z"]), Word("Y"), Ratio(-4, 5))
        self.assertEqual(left(suspects, (seen, more)), ((0,),))
        refused_about(self, Settled, None, look, suspects, (seen, more))

    def test_looking_until_it_is_settled(self):
        rng = random.Random(266)
        for number in range(12):
            suspects = some_suspects(rng, 5)
            hidden = rng.randrange(5)
            looks = ()
            while len(left(suspects, looks)) > 1 and len(looks) < 8:
                setting, start, word = look(suspects, looks)
                texts = [one.text for one in start.words]
                read = helper.mean_at(suspects[hidden].text, texts, word.text, helper.angles_of(setting))
                looks = looks + ((setting, start, word, helper.ratio(read)),)
            ((*row,),) = left(suspects, looks)
            self.assertIn(hidden, row)

    def test_the_largest(self):
        one, other = Circuit(helper.large_text(82)), Circuit(helper.large_text(83))
        suspects = (one, one, one.without(one.turns[1]), ~one, other.without(other.turns[0]), other, ~other, one)
        self.parts(suspects, ())


class NamesTest(unittest.TestCase):
    """Guarantee (d), for what sections 14 and 15 tell."""

    def test_wires_and_knobs(self):
        rng = random.Random(268)
        names = {"a": "z", "b": "turn", "c": "b"}
        for number in range(30):
            suspects = some_suspects(rng, 1 + number % 6)
            places = list(range(suspects[0].wires))
            rng.shuffle(places)
            pairs = [helper.exchanged_wires(helper.renamed(circuit, names), places) for circuit in suspects]
            others, word = tuple(pair[0] for pair in pairs), pairs[0][1]
            self.assertEqual(left(others, ()), left(suspects, ()))
            seen, (angles, texts, text, read) = some_look(rng, suspects, 0)
            changed = helper.setting_of({names[knob]: pair for knob, pair in angles.items()})
            other = (changed, start_of([word(one) for one in texts]), Word(word(text)), helper.ratio(read))
            self.assertEqual(left(others, (other,)), left(suspects, (seen,)))
            fixed = [behind(suspects[0], circuit) for circuit in suspects]
            for table, circuit in zip(fixed, others):
                found = behind(others[0], circuit)
                self.assertEqual(found is None, table is None)
                if table is not None:
                    for letters in helper.all_letters(table.wires)[::5]:
                        self.assertEqual(found.back(Word(word(letters))).text, word(table.back(Word(letters)).text))


class ShownTest(unittest.TestCase):
    def setUp(self):
        self.suspects = (Circuit("wires 1\nturn X by 1 k"), Circuit("wires 1\nturn X by 1 m"), Circuit("wires 1\nturn X by 1 k"))
        k, m = ("k", Ratio(3, 5), Ratio(4, 5)), ("m", 0, 1)
        self.right = ((k, m), start_of(["Z"]), Word("Z"))

    def shown(self, value, looks=()):
        got = shows_look(self.suspects, looks, value)
        self.assertIs(type(got), bool)
        return got

    def test_right_and_wrong_ones(self):
        (k, m), start, word = self.right
        self.assertTrue(self.shown(self.right))
        for told in (
            ((k, m), start, Word("-Z")), ((k, m), start, Word("Y")), ((k, m), start_of(["-Y"]), word),
            ((("k", 1, 0), m), start, word), ((("k", -1, 0), ("m", 1, 0)), start, word), ((("k", 1, 0), ("m", 0, -1)), start, word),
        ):
            self.assertTrue(self.shown(told))
        for told in (
            ((("k", 1, 0), ("m", 1, 0)), start, word), ((("k", 0, 1), ("m", 0, -1)), start, word), ((k, m), start_of(["X"]), word),
            ((k, m), start, Word("X")), ((k, m), start, Word("I")), ((k, ("m", Ratio(3, 5), Ratio(4, 5))), start, word),
        ):
            self.assertFalse(self.shown(told))

    def test_drawn_ones_beside_means(self):
        rng = random.Random(267)
        seen = {True: 0, False: 0}
        while min(seen.values()) < 25:
            suspects = some_suspects(rng, rng.randint(2, 4), 1)
            rows = left(suspects, ())
            if len(rows) > 1:
                (setting, start, word, _), (angles, texts, text, _) = some_look(rng, suspects)
                wanted = len({helper.mean_at(suspects[row[0]].text, texts, text, angles) for row in rows}) > 1
                self.assertIs(shows_look(suspects, (), (setting, start, word)), wanted)
                seen[wanted] += 1

    def test_only_classes_that_are_left(self):
        suspects = tuple(Circuit("wires 1\n" + text) for text in ("turn X by 1 k", "turn Y by 1 k", "h 0"))
        setting = (("k", Ratio(3, 5), Ratio(4, 5)),)
        self.assertIs(shows_look(suspects, (), (setting, start_of(["Z"]), Word("Z"))), True)
        seen = (setting, start_of(["Z"]), Word("Z"), Ratio(3, 5))
        self.assertIs(shows_look(suspects, (seen,), (setting, start_of(["Z"]), Word("Z"))), False)
        self.assertIs(shows_look(suspects, (seen,), (setting, start_of(["Z"]), Word("Y"))), True)

    def test_wrong_parts(self):
        (k, m), start, word = self.right
        for setting in (
            (), (k,), (m,), (m, k), (k, m, ("n", 1, 0)), (("a", 1, 0), k, m), [k, m], (list(k), m), (k, k), (("k", 1, 1), m),
            (("k", True, 0), m), None, "km", {"k": 1}, (("K", 1, 0), m),
        ):
            self.assertFalse(self.shown((setting, start, word)))
        for other in (start_of(["ZI", "IZ"]), start_of(["ZII", "IZI", "IIZ"]), ("Z",), (Word("Z"),), Word("Z"), None, "Z", [start]):
            self.assertFalse(self.shown(((k, m), other, word)))
        for other in (Word("ZZ"), Word("II"), "Z", None, start, [word], (word,), 1):
            self.assertFalse(self.shown(((k, m), start, other)))

    def test_values_of_any_kind(self):
        for value in helper.any_values() + [
            list(self.right), self.right[:2], self.right + (1,), self.right[::-1], (self.right,), {"a": 1}, self.suspects,
        ]:
            self.assertFalse(self.shown(value))

    def test_by_name(self):
        told = look(looks=(), suspects=self.suspects)
        self.assertIs(shows_look(value=told, looks=(), suspects=self.suspects), True)
        self.assertEqual(left(looks=(), suspects=self.suspects), ((0, 2), (1,)))


class RefusedTest(unittest.TestCase):
    def setUp(self):
        self.suspects = (Circuit("wires 2\nturn XX by 1 k"), Circuit("wires 2\nturn XX by 1 m"))
        self.setting = (("k", Ratio(3, 5), Ratio(4, 5)), ("m", 0, 1))
        self.look = (self.setting, start_of(["ZI", "IZ"]), Word("ZZ"), 1)

    def refused(self, kind, value, suspects, looks):
        for act, more in ((left, ()), (look, ()), (shows_look, (None,))):
            refused(self, kind, value, act, suspects, looks, *more)

    def test_suspects(self):
        one, other = self.suspects
        single = Circuit("wires 1")
        for value in helper.any_values() + [
            [one, other], (one, single), (single, one), (one, other, single), (one,) * 9, (one, other) * 5, one, (one, None),
            (one, "wires 2"), (one.text, other.text), ((one, other),), ([one], other), (one, table_of(one)), (one, True),
            {"a": one}, (one, other, (one,)), (self.look,),
        ]:
            for looks in ((), (self.look,), None, [self.look], (None,)):
                self.refused(BadSuspects, value, value, looks)
        for value in ((one,), (other,) * 8):
            self.assertEqual(left(value, ()), (tuple(range(len(value))),))

    def test_looks(self):
        for value in helper.any_values() + [[], [self.look], (self.look,) * 9, self.look, (self.look, None), (list(self.look),), {}]:
            if value != ():
                self.refused(BadLooks, value, self.suspects, value)
        self.assertEqual(left(self.suspects, (self.look,) * 8), left(self.suspects, (self.look,)))

    def test_one_thing_of_a_look_otherwise(self):
        setting, start, word, number = self.look
        k, m = setting
        wrong = [(one, start, word, number) for one in (
            (), (k,), (m,), (m, k), [k, m], (list(k), m), (k, k, m), (("k", 1, 1), m), (("k", True, 0), m), (("k", 0, False), m),
            (k, ("m", "0", 1)), (k, ("n", 0, 1)), (k, ("m", 0)), (k, m, ("n", 2, 0)), (k, m, None), (k, m, ("a", 1, 0)),
            (k, m, ("N", 1, 0)), None, "km", {"k": 1}, (["k", 1, 0], m), Word("ZZ"), start, (k, ("m", Wave(()), 1)),
        )]
        wrong += [(setting, one, word, number) for one in (
            None, "ZI", Word("ZI"), (Word("ZI"), Word("IZ")), start_of(["Z"]), start_of(["ZII", "IZI", "IIZ"]), [start], (start,), 1,
        )]
        wrong += [(setting, start, one, number) for one in (
            None, "ZZ", Word("Z"), Word("ZZZ"), Word("-IIII"), start, [word], (word,), 1, ("ZZ",),
        )]
        wrong += [(setting, start, word, one) for one in (
            None, True, False, "1", (1,), [1], Word("ZZ"), Wave(()), {}, "Ratio(1)", (Ratio(1),), Circuit("wires 2"),
        )]
        wrong += [self.look[:3], self.look + (1,), self.look[::-1], (self.look,), self.look[:2] + (number, word)]
        for one in wrong:
            for looks in ((one,), (self.look, one), (one, self.look)):
                self.refused(BadLooks, looks, self.suspects, looks)

    def test_right_looks_that_look_unusual(self):
        setting, start, word, number = self.look
        for one in (
            (setting, start_of(["XX", "-ZZ"]), word, number), (setting, start, Word("-II"), -1), (setting, start, Word("XY"), Ratio(10 ** 300, 7)),
            ((("a", 0, 1),) + setting + (("z", -1, 0),), start, word, 0),
        ):
            self.assertIs(type(left(self.suspects, (one,))), tuple)

    def test_settled(self):
        one, other = self.suspects
        for suspects in ((one,), (one, one), (one, one * Circuit("wires 2\nh 0\nh 0"))):
            refused_about(self, Settled, None, look, suspects, ())
            for value in (None, 1, self.look[:3]):
                refused_about(self, Settled, None, shows_look, suspects, (), value)


if __name__ == "__main__":
    unittest.main()
