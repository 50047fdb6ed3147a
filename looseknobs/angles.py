"""Angles whose cosines and sines are fractions.

An angle is told by three integers (a, b, d): its cosine is a / d, its sine b / d.
These are multiplied without being brought to least terms: this is put off
until the number is told.
"""

from looseknobs.kinds import is_name, is_row
from looseknobs.ratios import Ratio, as_ratio, is_number
from looseknobs.sequences import rises

NO_ANGLE = (1, 0, 1)


def is_angle(c, s):
    """Whether these are the cosine and the sine of an angle."""
    return is_number(c) and is_number(s) and as_ratio(c * c + s * s) == Ratio(1)


def is_setting(value):
    """Whether this is an ascending tuple of (knob, c, s), no knob twice."""
    if not isinstance(value, tuple):
        return False
    for row in value:
        if not is_row(row, 3) or not is_name(row[0]) or not is_angle(row[1], row[2]):
            return False
    return rises([row[0] for row in value])


def is_setting_of(value, knobs):
    """Whether this is a setting that has just these knobs."""
    return is_setting(value) and tuple([row[0] for row in value]) == knobs


def angles_of(setting):
    """The angles of a setting, by their knobs."""
    return {knob: whole_angle(c, s) for knob, c, s in setting}


# In least terms both fractions have the same integer below, for the sum of
# their squares is 1.
def whole_angle(c, s):
    """The angle with this cosine and this sine."""
    cosine = as_ratio(c)
    sine = as_ratio(s)
    return cosine.number, sine.number, cosine.under


def turned_on(one, other):
    """The sum of two angles."""
    a, b, d = one
    e, f, g = other
    return a * e - b * f, a * f + b * e, d * g


def many_times(angle, many):
    """So many times an angle, also 0 times or fewer."""
    if many < 0:
        a, b, d = angle
        return many_times((a, -b, d), -many)
    made = NO_ANGLE
    while many > 0:
        if many % 2 == 1:
            made = turned_on(made, angle)
        many = many // 2
        if many > 0:
            angle = turned_on(angle, angle)
    return made


def angle_of(form, angles):
    """The angle that a form stands for, all of its knobs having angles."""
    made = NO_ANGLE
    for knob, many in form:
        made = turned_on(made, many_times(angles[knob], many))
    return made
