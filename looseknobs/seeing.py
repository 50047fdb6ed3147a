"""What is seen of the knobs of a circuit."""

from math import gcd

from looseknobs.angles import angles_of, is_angle, is_setting_of, many_times, turned_on, whole_angle
from looseknobs.errors import BadShift, NoKnob
from looseknobs.kinds import is_row, is_told, is_whole
from looseknobs.lattices import level_rows, sum_of_products
from looseknobs.leading import first_words
from looseknobs.parting import change, parted_at
from looseknobs.ratios import Ratio
from looseknobs.sequences import ascending
from looseknobs.spreads import spread
from looseknobs.sums import first_sums, led_at, rows_in
from looseknobs.words import Word, is_word_of

GREATEST_SHIFT = 99
HIDDEN = ("hidden",)

QUARTER = (0, 1, 1)
# No multiple of this angle is a whole number of rounds.
ENDLESS = (3, 4, 5)


def hidden(circuit):
    """The rows whose sums of multiples are the shifts that hide."""
    return level_rows(_rounds(circuit), len(circuit.knobs))


def seen(circuit):
    """How many angles are seen."""
    return len(circuit.knobs) - len(hidden(circuit))


def shifted(circuit, shift):
    """("hidden",), or ("seen", setting, c, s, word) that show that this shift does not hide."""
    _need_shift(circuit, shift)
    words = first_words(circuit.wires)
    sums = first_sums(circuit, circuit.knobs)
    for angle in (QUARTER, ENDLESS):
        for letters, found in zip(words, sums):
            for place in ascending(list(found)):
                part = change(found[place], shift, angle)
                if len(part) > 0:
                    a, b, d = angle
                    return "seen", parted_at(part, circuit.knobs), Ratio(a, d), Ratio(b, d), Word(letters)
    return HIDDEN


def shows_shifted(circuit, shift, value):
    """Whether this value is such a result."""
    _need_shift(circuit, shift)
    if is_told(value, HIDDEN):
        return _hides(circuit, shift)
    if not is_row(value, 5) or not is_told(value[:1], ("seen",)):
        return False
    setting, c, s, word = value[1:]
    if not is_setting_of(setting, circuit.knobs) or not is_angle(c, s) or not is_word_of(word, circuit.wires):
        return False
    if _hides(circuit, shift):
        return False
    ahead = angles_of(setting)
    angle = whole_angle(c, s)
    behind = {knob: turned_on(ahead[knob], many_times(angle, many)) for knob, many in zip(circuit.knobs, shift)}
    return led_at(circuit, word, ahead) != led_at(circuit, word, behind)


def parts(circuit, knob):
    """By which part of a round this knob can be turned on without any change; 0 for by any angle."""
    if knob not in circuit.knobs:
        raise NoKnob(knob)
    place = circuit.knobs.index(knob)
    most = 0
    for row in _rounds(circuit):
        most = gcd(most, row[place])
    return most


def hangs(circuit, word):
    """The knobs on which hangs to what this word is led back."""
    return spread(circuit, word).knobs


# If the first words come to the same, all do.
def _rounds(circuit):
    """The rows that stand in any sum of the first words."""
    return rows_in(first_sums(circuit, circuit.knobs))


def _need_shift(circuit, shift):
    if not is_row(shift, len(circuit.knobs)) or not all([is_whole(many) for many in shift]):
        raise BadShift(shift)
    if any([abs(many) > GREATEST_SHIFT for many in shift]) and shift not in hidden(circuit):
        raise BadShift(shift)


def _hides(circuit, shift):
    return all([sum_of_products(row, shift) == 0 for row in _rounds(circuit)])
