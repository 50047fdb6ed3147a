"""The cheapest lines: section 16."""

import itertools
import random
import unittest

import helper
from helper import lines_of, refused, with_lines
from looseknobs.choosing import cheapest
from looseknobs.circuits import Circuit
from looseknobs.errors import BadOffers, BadWishes
from looseknobs.keeping import kept
from looseknobs.layers import layers
from looseknobs.likeness import same
from looseknobs.ratios import Ratio
from looseknobs.seeing import hangs
from looseknobs.waves import Wave
from looseknobs.words import Word


def with_choice(circuit, choice):
    """The lines with those of a choice put in, place by place."""
    lines, found = lines_of(circuit), []
    for at in range(len(lines) + 1):
        found += [line for place, line, price in choice if place == at]
        found += lines[at : at + 1]
    return found


def comes_true(circuit, wish):
    if wish[0] == "kept":
        return wish[1].text in kept(circuit)
    if wish[0] == "free":
        return wish[2] not in hangs(circuit, wish[1])
    if wish[0] == "layers":
        return len(layers(circuit)[0]) <= wish[1]
    return same(circuit, wish[1]) == ("same",)


def by_hand(circuit, offers, wishes):
    """All choices gone through in their sequence."""
    choices = [choice for many in range(len(offers) + 1) for choice in itertools.combinations(offers, many)]
    choices.sort(key=lambda choice: (sum(price for _, _, price in choice), len(choice), choice))
    reasons = []
    for choice in choices:
        lines = with_choice(circuit, choice)
        if len(lines) > 40:
            continue
        failed = [number for number, wish in enumerate(wishes) if not comes_true(with_lines(circuit.wires, lines), wish)]
        if not failed:
            return "choice", sum(price for _, _, price in choice), choice, tuple(reasons)
        reasons.append((choice, failed[0]))
    return "none", tuple(reasons)


def some_offers(rng, circuit, places=None, prices=range(1, 10)):
    """Drawn offers; places or prices may be given to choose from."""
    found = set()
    for _ in range(rng.randint(1, 4)):
        place = rng.choice(places) if places else rng.randint(0, len(circuit))
        found.add((place, helper.some_fixed(rng, circuit.wires), rng.choice(prices)))
    return tuple(sorted(found))


def some_wishes(rng, circuit, offers):
    """Drawn wishes, some of which come true by some of the offers."""
    chosen = tuple(offer for offer in offers if rng.random() < 0.5)
    goal = with_lines(circuit.wires, with_choice(circuit, chosen)[:40])
    word = helper.some_word(rng, circuit.wires, ("",))
    close = rng.choice(kept(goal) or (word,))
    return tuple(rng.choice((
        ("kept", Word(close)), ("kept", Word(word)), ("free", Word(helper.some_word(rng, circuit.wires)), rng.choice("abcz")),
        ("layers", rng.randint(0, 4)), ("same", goal), ("free", Word("I" * circuit.wires), "a"), ("layers", len(layers(goal)[0])),
    )) for _ in range(rng.randint(1, 3)))


class CheapestTest(unittest.TestCase):
    def right(self, circuit, offers, wishes):
        got = cheapest(circuit, offers, wishes)
        self.assertEqual(got, by_hand(circuit, offers, wishes), (circuit.text, offers, wishes))
        self.assertIs(type(got), tuple)
        self.assertIs(type(got[-1]), tuple)
        for choice, number in got[-1]:
            self.assertEqual([type(choice), type(number)], [tuple, int])
        if got[0] == "choice":
            self.assertEqual([type(got[1]), type(got[2])], [int, tuple])
        self.assertEqual(cheapest(circuit, offers, wishes), got)
        return got

    def test_drawn_ones(self):
        rng = random.Random(271)
        seen = {}
        for circuit in helper.some_circuits(272, 150, turns=3, fixed=4, knobs="abc"):
            offers = some_offers(rng, circuit)
            got = self.right(circuit, offers, some_wishes(rng, circuit, offers))
            kind = got[0] if got[0] == "none" else len(got[2])
            seen[kind] = seen.get(kind, 0) + 1
        self.assertGreater(seen["none"], 20)
        self.assertGreater(seen[0], 10)
        self.assertGreater(seen[1], 5)
        self.assertGreater(seen.get(2, 0) + seen.get(3, 0) + seen.get(4, 0), 3)

    def test_offers_of_one_place_and_one_price(self):
        rng = random.Random(273)
        for circuit in helper.some_circuits(274, 80, turns=2, fixed=3, knobs="abc"):
            place = rng.randint(0, len(circuit))
            for offers in (some_offers(rng, circuit, (place,)), some_offers(rng, circuit, None, (3,)), some_offers(rng, circuit, (place,), (2,))):
                self.right(circuit, offers, some_wishes(rng, circuit, offers))

    def test_sequence_of_choices(self):
        circuit = Circuit("wires 1\nturn Z by 1 k")
        offers = ((0, "flip X", 1), (0, "flip Y", 1), (0, "flip Z", 2), (1, "flip X", 3))
        a, b, c, d = offers
        wanted = (
            (), (a,), (b,), (c,), (a, b), (d,), (a, c), (b, c), (a, d), (b, d), (a, b, c), (c, d), (a, b, d), (a, c, d), (b, c, d), offers,
        )
        got = self.right(circuit, offers, (("layers", 0),))
        self.assertEqual(got, ("none", tuple((choice, 0) for choice in wanted)))

    def test_lines_of_one_place_stand_in_the_sequence_of_the_choice(self):
        circuit = Circuit("wires 1\nh 0")
        offers = ((0, "quarter X", 1), (0, "quarter Z", 1), (1, "flip X", 5), (1, "h 0", 5))
        for lines in (["quarter X", "quarter Z", "h 0"], ["quarter X", "quarter Z", "h 0", "flip X", "h 0"], ["h 0", "flip X", "h 0"]):
            got = self.right(circuit, offers, (("same", with_lines(1, lines)),))
            self.assertEqual(with_choice(circuit, got[2]), lines)

    def test_one_line_at_two_prices(self):
        offers = ((0, "h 0", 2), (0, "h 0", 3), (1, "h 0", 1))
        got = self.right(Circuit("wires 1\nquarter X"), offers, (("same", Circuit("wires 1\nh 0\nquarter X\nh 0")),))
        self.assertEqual(got[:3], ("choice", 3, (offers[0], offers[2])))

    def test_each_kind_of_wish(self):
        turn = Circuit("wires 2\nturn XI by 1 k\nturn ZI by 1 m")
        offers = ((0, "h 0", 2), (1, "h 0", 2), (2, "cx 0 1", 1), (2, "h 0", 2))
        for wishes in (
            (("kept", Word("XI")),), (("kept", Word("ZZ")),), (("free", Word("-XI"), "m"),), (("free", Word("II"), "k"),),
            (("layers", 1),), (("layers", 0),), (("layers", 6),), (("same", Circuit("wires 2\nturn XI by 1 k\nturn XI by 1 m\nh 0")),),
            (("kept", Word("XX")), ("layers", 2), ("same", turn)), (("layers", 6), ("free", Word("XI"), "zz"), ("layers", 1)),
            (("free", Word("ZI"), "k"), ("free", Word("YI"), "m")), (("same", turn), ("same", turn), ("same", turn)),
        ):
            self.right(turn, offers, wishes)

    def test_no_choice_of_too_many_lines(self):
        rng = random.Random(275)
        skipped = 0
        for lines in (37, 38, 39, 40):
            for _ in range(4):
                wires = rng.randint(1, 4)
                circuit = Circuit(helper.some_text(rng, wires, lines - 2, 2, "ab"))
                offers = some_offers(rng, circuit, range(len(circuit) + 1))
                got = self.right(circuit, offers, (("layers", 2), ("kept", Word("X" * wires)), ("same", circuit)))
                self.right(circuit, offers, (("same", with_lines(wires, with_choice(circuit, offers[-1:])[:40])),))
                if got[0] == "none":
                    self.assertTrue(all(len(choice) <= 40 - lines for choice, number in got[1]))
                    skipped += len(got[1]) < 2 ** len(offers)
        self.assertGreater(skipped, 4)

    def test_the_largest_circuits(self):
        for seed in range(2):
            circuit = Circuit(helper.large_text(seed + 90))
            for number in [number for number in range(40) if number not in circuit.turns][:4]:
                circuit = circuit.without(number)
            offers = tuple(sorted(((3, "h 0", 4), (3, "cx 0 1", 2), (20, "quarter XYZX", 1), (36, "swap 2 3", 9))))
            goal = with_lines(4, with_choice(circuit, offers[1:]))
            self.assertEqual(self.right(circuit, offers, (("layers", 6), ("same", goal)))[2], offers[1:])

    def test_by_name(self):
        circuit, offers, wishes = Circuit("wires 1"), ((0, "h 0", 1),), (("layers", 0),)
        self.assertEqual(cheapest(wishes=wishes, circuit=circuit, offers=offers), ("choice", 0, (), ()))


class RefusedTest(unittest.TestCase):
    def setUp(self):
        self.circuit = Circuit("wires 2\nturn XI by 1 k\ncx 0 1")
        self.offers = ((0, "h 0", 1), (2, "cz 0 1", 9))
        self.wishes = (("kept", Word("XX")), ("layers", 1))

    def bad_offers(self, value):
        for wishes in (self.wishes, (), None, [self.wishes], ("kept", Word("XX"))):
            refused(self, BadOffers, value, cheapest, self.circuit, value, wishes)

    def bad_wishes(self, value):
        refused(self, BadWishes, value, cheapest, self.circuit, self.offers, value)

    def test_offers_of_any_kind(self):
        one, other = self.offers
        for value in helper.any_values() + [
            list(self.offers), (list(one), other), (one, list(other)), one, (self.offers,), (one, other, ()), {one: 1}, (one, None),
            (one, one), (other, one), (one, other, other), (one, other, one), tuple((0, "h 0", n) for n in range(1, 6)),
            ((0, "h 0", 2), (0, "h 0", 1)), ((0, "h 1", 1), (0, "h 0", 2)), ((1, "h 0", 1), (0, "h 1", 1)),
        ]:
            self.bad_offers(value)
        self.assertEqual(cheapest(self.circuit, tuple((0, "h 0", n) for n in range(1, 5)), (("layers", 1),))[:3], ("choice", 0, ()))

    def test_one_thing_of_an_offer_otherwise(self):
        wrong = [(place, "h 0", 1) for place in (-1, 3, 40, True, False, None, "0", Ratio(0), (0,), 10 ** 30)]
        wrong += [(0, line, 1) for line in helper.WRONG if isinstance(line, str)]
        wrong += [(0, line, 1) for line in (
            "turn XX by 1 k", "turn -XI by 1 k 2 m", "flip X", "quarter XXX", "h 2", "cx 0 3", "h 0\nh 0", "h 0\n", None, 1, True,
            ("h 0",), ["h 0"], Word("XX"), Circuit("wires 2\nh 0"), "wires 2\nh 0", {},
        )]
        wrong += [(0, "h 0", price) for price in (0, 10, -1, True, False, None, "1", Ratio(1), (1,), 10 ** 30)]
        wrong += [(0, "h 0"), (0, "h 0", 1, 1), (1, "h 0", 0), ("h 0", 0, 1), (), ("h 0",), (0,), ((0, "h 0", 1),)]
        for offer in wrong:
            self.bad_offers((offer,))
        for offer in ((3, "h 0", 1), (2, "turn XX by 1 k", 1), (2, "h 0", 10)):
            self.bad_offers((self.offers[0], offer))
        for offer in ((0, "h 0", 1), (2, "h 0", 9), (1, "flip -XY", 5)):
            self.assertEqual(cheapest(self.circuit, (offer,), (("layers", 1),))[0], "choice")

    def test_wishes_of_any_kind(self):
        one, other = self.wishes
        for value in helper.any_values() + [
            [one, other], (list(one), other), one, (self.wishes,), (one,) * 4, (one, other, ()), (one, None), {"kept": Word("XX")},
            (one, other, ["layers", 1]), (("layers",),), ((),), (("kept", Word("XX"), "k"),), (("layers", 1, 1),), (("free", Word("XX")),),
            (("free", Word("XX"), "k", 1),), (("same", self.circuit, 1),), (("Kept", Word("XX")),), ((None, 1),), ((True, 1),),
            ((("kept",), Word("XX")),), ((Word("XX"), "kept"),), ((1, "layers"),), ((Ratio(1), 1),), (("free", "k", Word("XX")),),
            (("", 1),), (("other", self.circuit),),
        ]:
            self.bad_wishes(value)
        self.assertEqual(cheapest(self.circuit, self.offers, (other,) * 3)[0], "choice")

    def test_one_thing_of_a_wish_otherwise(self):
        values = [
            None, True, False, 1, "XX", ("XX",), [Word("XX")], (Word("XX"),), Ratio(1), Wave(()), Circuit("wires 2"), {},
            Word("X"), Word("XXX"), Word("-XXXX"), Word("IIII"),
        ]
        wrong = [("kept", value) for value in values + [Word("-XX"), Word("II"), Word("-II")]]
        wrong += [("free", value, "k") for value in values]
        wrong += [("free", Word("XX"), value) for value in helper.NO_NAMES + (None, 1, True, ("k",), ["k"], Word("XX"), "abcdefghi", "k m")]
        wrong += [("layers", value) for value in (7, -1, 100, True, False, None, "1", Ratio(1), (1,), [1], Word("XX"))]
        wrong += [("same", value) for value in (
            Circuit("wires 1"), Circuit("wires 3\nh 0"), "wires 2", None, True, 1, (self.circuit,), [self.circuit], Word("XX"), Wave(()),
        )]
        for wish in wrong:
            self.bad_wishes((wish,))
            self.bad_wishes((self.wishes[1], wish))
        for wish in (("kept", Word("XX")), ("free", Word("-II"), "abcdefgh"), ("layers", 0), ("layers", 6), ("same", Circuit("wires 2"))):
            self.assertIn(cheapest(self.circuit, self.offers, (wish,))[0], ("choice", "none"))


if __name__ == "__main__":
    unittest.main()
