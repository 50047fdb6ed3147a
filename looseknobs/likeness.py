"""Whether two circuits do the same at all angles."""

from looseknobs.angles import angles_of, is_setting_of
from looseknobs.circuits import Circuit
from looseknobs.errors import OtherSize
from looseknobs.kinds import is_row, is_told
from looseknobs.leading import first_words
from looseknobs.parting import difference, parted_at
from looseknobs.sequences import ascending
from looseknobs.sums import first_sums, led_at
from looseknobs.words import Word, is_word_of

SAME = ("same",)


# What the first words are led back to tells it of all words: leading back
# goes along with making words of others.
def same(one, other):
    """("same",), or ("apart", setting, word) that show that they are not."""
    _need_circuit(one, other)
    knobs = all_knobs(one, other)
    words = first_words(one.wires)
    for letters, found, wanted in zip(words, first_sums(one, knobs), first_sums(other, knobs)):
        for place in ascending([*found, *wanted]):
            part = difference(found.get(place, {}), wanted.get(place, {}))
            if len(part) > 0:
                return "apart", parted_at(part, knobs), Word(letters)
    return SAME


def shows_same(one, other, value):
    """Whether this value is such a result."""
    _need_circuit(one, other)
    if is_told(value, SAME):
        return same(one, other) == SAME
    if not is_row(value, 3) or not is_told(value[:1], ("apart",)):
        return False
    setting, word = value[1:]
    if not is_setting_of(setting, all_knobs(one, other)) or not is_word_of(word, one.wires):
        return False
    angles = angles_of(setting)
    return led_at(one, word, angles) != led_at(other, word, angles)


def all_knobs(one, other):
    """The knobs of both circuits, ascending."""
    return ascending([*one.knobs, *other.knobs])


def _need_circuit(one, other):
    if not isinstance(other, Circuit) or other.wires != one.wires:
        raise OtherSize(other)
