"""Angles that part: the search behind sections 9 and 10, for parts that are 0 at the angles that are tried first."""

import random
import unittest
from fractions import Fraction

import helper
from looseknobs.parting import change, difference, parted_at
from looseknobs.ratios import Ratio

QUARTERS = ((1, 0, 1), (0, 1, 1), (-1, 0, 1), (0, -1, 1))
TRIED = QUARTERS + tuple((1 - t * t, 2 * t, 1 + t * t) for t in range(2, 7))


def times(one, other):
    return one[0] * other[0] - one[1] * other[1], one[0] * other[1] + one[1] * other[0]


def product(one, other):
    made = {}
    for row in one:
        for more in other:
            place = tuple(a + b for a, b in zip(row, more))
            a, b = times(one[row], other[more])
            c, d = made.get(place, (0, 0))
            made[place] = (a + c, b + d)
    return {row: pair for row, pair in made.items() if pair != (0, 0)}


def without(angle, place, size):
    """What is 0 just where the knob at this place has this angle."""
    a, b, d = angle
    on = tuple(int(at == place) for at in range(size))
    return {on: (d, 0), (0,) * size: (-a, -b)}


def value(part, angles):
    total = (Fraction(0), Fraction(0))
    for row, pair in part.items():
        number = pair
        for angle, many in zip(angles, row):
            number = times(number, helper.many_times(angle, many))
        total = (total[0] + number[0], total[1] + number[1])
    return total


class PartingTest(unittest.TestCase):
    def parted(self, part, knobs):
        setting = parted_at(part, knobs)
        self.assertEqual(tuple(row[0] for row in setting), knobs)
        for knob, c, s in setting:
            self.assertEqual(c * c + s * s, Ratio(1))
        angles = [(helper.fraction(c), helper.fraction(s)) for knob, c, s in setting]
        self.assertNotEqual(value(part, angles), (0, 0))

    def test_parts_that_are_0_at_many_angles(self):
        rng = random.Random(161)
        for size in (1, 2, 3):
            knobs = ("a", "b", "c")[:size]
            for _ in range(60):
                part = {tuple(rng.randint(-3, 3) for _ in knobs): (rng.randint(-3, 3), rng.randint(1, 3))}
                for place in range(size):
                    for angle in rng.sample(TRIED, rng.randint(0, 8 if size == 1 else 4)):
                        part = product(part, without(angle, place, size))
                self.parted(part, knobs)

    def test_parts_that_are_0_at_all_angles_tried_first(self):
        part = {(-4,): (0, 5)}
        for angle in TRIED:
            part = product(part, without(angle, 0, 1))
        self.parted(part, ("k",))
        both = {row + (0,): pair for row, pair in part.items()}
        self.parted(product(both, {(0,) + row: pair for row, pair in part.items()}), ("k", "m"))

    def test_drawn_parts(self):
        rng = random.Random(162)
        for _ in range(100):
            knobs = ("a", "b", "c")[: rng.randint(0, 3)]
            rows = {tuple(rng.randint(-4, 4) for _ in knobs): (rng.randint(-2, 2), rng.randint(-2, 2)) for _ in range(5)}
            part = {row: pair for row, pair in rows.items() if pair != (0, 0)}
            if part:
                self.parted(part, knobs)

    def test_differences(self):
        one, other = {(1,): (1, 2), (2,): (3, 0), (3,): (0, 1)}, {(1,): (1, 2), (2,): (3, 1), (4,): (5, -6)}
        self.assertEqual(difference(one, other), {(2,): (0, -1), (3,): (0, 1), (4,): (-5, 6)})
        self.assertEqual(difference({(1,): (1, 2)}, {(1,): (0, 2)}), {(1,): (1, 0)})
        self.assertEqual(difference(one, dict(one)), {})
        self.assertEqual(difference({}, {}), {})

    def test_changes(self):
        rng = random.Random(163)
        for _ in range(100):
            rows = {tuple(rng.randint(-4, 4) for _ in "ab"): (rng.randint(-2, 2), rng.randint(1, 2)) for _ in range(4)}
            shift = (rng.randint(-5, 5), rng.randint(-5, 5))
            for a, b, d in ((0, 1, 1), (3, 4, 5), (-5, 12, 13)):
                found = change(rows, shift, (a, b, d))
                angles = list(helper.some_angles(rng, "ab").values())
                on = (Fraction(a, d), Fraction(b, d))
                later = [helper.added(angle, helper.many_times(on, many)) for angle, many in zip(angles, shift)]
                most = max(abs(sum(n * more for n, more in zip(row, shift))) for row in rows)
                old, new = value(rows, angles), value(rows, later)
                self.assertEqual(value(found, angles), tuple((y - x) * d ** most for x, y in zip(old, new)))
                self.assertNotIn((0, 0), found.values())
                self.assertLessEqual(set(found), set(rows))
        self.assertEqual(change({(2, 1): (1, 1), (0, 0): (5, 0)}, (1, -2), (3, 4, 5)), {})


if __name__ == "__main__":
    unittest.main()
