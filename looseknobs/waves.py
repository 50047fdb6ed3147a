"""Sums of waves in the angles of knobs."""

from math import lcm

from looseknobs.angles import angle_of, angles_of, is_setting
from looseknobs.errors import BadName, BadSetting, BadTerms, Loose
from looseknobs.forms import is_turns, joined, turned_back
from looseknobs.kinds import is_name, is_row
from looseknobs.ratios import Ratio, as_ratio, is_number
from looseknobs.sequences import ascending

NOTHING = (0, 0, 1)


class Wave:
    """Cosines and sines of sums of the knobs' angles, each so many times."""

    def __init__(self, terms):
        if not _are_terms(terms):
            raise BadTerms(terms)
        found = {turns: (turns, as_ratio(cosine), as_ratio(sine)) for turns, cosine, sine in terms}
        self.terms = tuple([found[turns] for turns in ascending(list(found))])
        self.knobs = ascending([knob for turns in found for knob, many in turns])

    def __len__(self):
        return len(self.terms)

    def __eq__(self, other):
        return isinstance(other, Wave) and self.terms == other.terms

    def __add__(self, other):
        if not _is_wavelike(other):
            return NotImplemented
        return told_wave([*_rows_of(self), *_rows_of(other)])

    def __radd__(self, other):
        if not _is_wavelike(other):
            return NotImplemented
        return told_wave([*_rows_of(other), *_rows_of(self)])

    def __sub__(self, other):
        if not _is_wavelike(other):
            return NotImplemented
        return told_wave([*_rows_of(self), *_negative(_rows_of(other))])

    def __rsub__(self, other):
        if not _is_wavelike(other):
            return NotImplemented
        return told_wave([*_rows_of(other), *_negative(_rows_of(self))])

    def __mul__(self, other):
        if not _is_wavelike(other):
            return NotImplemented
        return _product(_rows_of(self), _rows_of(other))

    def __rmul__(self, other):
        if not _is_wavelike(other):
            return NotImplemented
        return _product(_rows_of(other), _rows_of(self))

    def __neg__(self):
        return told_wave(_negative(_rows_of(self)))

    def at(self, setting):
        """The number that this is at a setting."""
        if not is_setting(setting):
            raise BadSetting(setting)
        angles = angles_of(setting)
        need_angles(self.knobs, angles)
        total = Ratio(0)
        for turns, cosine, sine, under in _rows_of(self):
            a, b, d = angle_of(turns, angles)
            total = total + Ratio(cosine * a + sine * b, under * d)
        return total

    def put(self, setting):
        """The Wave that is left if the knobs of a setting have these angles."""
        if not is_setting(setting):
            raise BadSetting(setting)
        angles = angles_of(setting)
        rows = []
        for turns, cosine, sine, under in _rows_of(self):
            a, b, d = angle_of([row for row in turns if row[0] in angles], angles)
            left = tuple([row for row in turns if row[0] not in angles])
            rows.append((left, cosine * a + sine * b, sine * a - cosine * b, under * d))
        return told_wave(rows)

    def slope(self, knob):
        """The Wave by which this one rises as a knob is turned."""
        if not is_name(knob):
            raise BadName(knob)
        rows = []
        for turns, cosine, sine, under in _rows_of(self):
            many = sum([times for name, times in turns if name == knob])
            rows.append((turns, sine * many, -cosine * many, under))
        return told_wave(rows)


def need_angles(knobs, angles):
    """Refuse the first knob that has no angle among these."""
    for knob in knobs:
        if knob not in angles:
            raise Loose(knob)


# Rows are reckoned with in place of terms: they tell both numbers by three
# integers, which need not be brought to least terms before all is summed up.
def told_wave(rows):
    """The Wave that is the sum of rows (form, cosine, sine, under), told in the one way."""
    found = {}
    for form, cosine, sine, under in rows:
        turns, sine = _one_way(form, sine)
        found[turns] = _summed(found.get(turns, NOTHING), cosine, sine, under)
    return _wave_of(found)


def _product(rows, others):
    """The product of both sums, by what cosines and sines of sums and differences are."""
    found = {}
    for form, c, s, under in rows:
        for other, e, f, below in others:
            both = 2 * under * below
            turns, sine = _one_way(joined(form, other), s * e + c * f)
            found[turns] = _summed(found.get(turns, NOTHING), c * e - s * f, sine, both)
            turns, sine = _one_way(joined(form, turned_back(other)), s * e - c * f)
            found[turns] = _summed(found.get(turns, NOTHING), c * e + s * f, sine, both)
    return _wave_of(found)


def _wave_of(found):
    """The Wave of a dict of turns, each with (cosine, sine, under), which may be 0."""
    rows = [(turns, found[turns]) for turns in found]
    return Wave(tuple([(turns, Ratio(c, under), Ratio(s, under)) for turns, (c, s, under) in rows if c != 0 or s != 0]))


def _one_way(form, sine):
    """The turns that this form or its contrary is, and the number of their sine."""
    if len(form) == 0:
        return form, 0
    if form[0][1] < 0:
        return turned_back(form), -sine
    return form, sine


def _summed(pair, cosine, sine, under):
    """The sum of two pairs of numbers, each told by (cosine, sine, under)."""
    c, s, below = pair
    if below == under:
        return c + cosine, s + sine, under
    both = lcm(below, under)
    one = both // below
    other = both // under
    return c * one + cosine * other, s * one + sine * other, both


def _are_terms(value):
    if not isinstance(value, tuple):
        return False
    for row in value:
        if not _is_term(row):
            return False
    return len(set([row[0] for row in value])) == len(value)


def _is_term(row):
    if not is_row(row, 3) or not is_turns(row[0]) or not is_number(row[1]) or not is_number(row[2]):
        return False
    turns, cosine, sine = row
    if len(turns) == 0 and not _is_nought(sine):
        return False
    return not _is_nought(cosine) or not _is_nought(sine)


def _is_nought(number):
    return as_ratio(number).number == 0


def _is_wavelike(value):
    return isinstance(value, Wave) or is_number(value)


def _rows_of(value):
    """The rows of a Wave, or of the one that is a number at all angles."""
    if isinstance(value, Wave):
        return [_row_of(turns, cosine, sine) for turns, cosine, sine in value.terms]
    number = as_ratio(value)
    return [((), number.number, 0, number.under)]


def _row_of(turns, cosine, sine):
    under = lcm(cosine.under, sine.under)
    return turns, cosine.number * (under // cosine.under), sine.number * (under // sine.under), under


def _negative(rows):
    return [(form, -cosine, -sine, under) for form, cosine, sine, under in rows]
