"""Angles at which a part of a sum is not 0: how what is unlike is shown."""

from looseknobs.angles import many_times
from looseknobs.lattices import sum_of_products
from looseknobs.ratios import Ratio
from looseknobs.sequences import ascending


def first_parted(found, wanted, knobs):
    """(letters, setting): where two sums are unlike, and a setting at which they are so; None if they are alike."""
    for letters in ascending([*found, *wanted]):
        part = difference(found.get(letters, {}), wanted.get(letters, {}))
        if len(part) > 0:
            return letters, parted_at(part, knobs)
    return None


def difference(one, other):
    """The part that one part of a sum is less another one."""
    made = {}
    for row in [*one, *[further for further in other if further not in one]]:
        a, b = one.get(row, (0, 0))
        c, d = other.get(row, (0, 0))
        if a != c or b != d:
            made[row] = (a - c, b - d)
    return made


# Here and below, all numbers are multiplied by one power of d, so that they stay integers.
def change(part, shift, angle):
    """What a part of a sum rises by if the knobs are turned on by so many times this angle."""
    times = {row: sum_of_products(row, shift) for row in part}
    most = max([int(abs(times[row])) for row in part])
    whole = many_times((angle[2], 0, 1), most)[0]
    made = {}
    for row in part:
        a, b, d = many_times(angle, times[row])
        scale = whole // d
        c, e = part[row]
        a = a * scale - whole
        b = b * scale
        if a * c - b * e != 0 or a * e + b * c != 0:
            made[row] = (a * c - b * e, a * e + b * c)
    return made


# What is left of a part when a knob has an angle can be 0 for not more angles
# than twice the greatest number of times that this knob goes round in it, and
# no two that are tried are the same angle: so the search ends for each knob.
def parted_at(part, knobs):
    """A setting of just these knobs at which this part, in which rows are left, is not 0."""
    setting = []
    for knob in knobs:
        tried = 0
        left = _left(part, _angle(tried))
        while len(left) == 0:
            tried += 1
            left = _left(part, _angle(tried))
        part = left
        a, b, d = _angle(tried)
        setting.append((knob, Ratio(a, d), Ratio(b, d)))
    return tuple(setting)


def _angle(tried):
    """The angle whose half has this integer as its tangent."""
    return 1 - tried * tried, 2 * tried, 1 + tried * tried


def _left(part, angle):
    """What is left of a part if the first one of its knobs has this angle."""
    most = max([int(abs(row[0])) for row in part])
    made = {}
    for row in part:
        a, b, d = many_times(angle, row[0])
        scale = many_times((angle[2], 0, 1), most - abs(row[0]))[0]
        c, e = part[row]
        old = made.get(row[1:], (0, 0))
        made[row[1:]] = (old[0] + (a * c - b * e) * scale, old[1] + (a * e + b * c) * scale)
    return {row: made[row] for row in made if made[row][0] != 0 or made[row][1] != 0}
