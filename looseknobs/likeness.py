"""Whether two circuits do the same at all angles."""

from looseknobs.angles import angles_of, is_setting_of
from looseknobs.circuits import Circuit
from looseknobs.errors import OtherSize
from looseknobs.kinds import is_row, is_told
from looseknobs.leading import first_words
from looseknobs.parting import first_parted
from looseknobs.sequences import ascending
from looseknobs.sums import led_at, led_sum
from looseknobs.words import Word, is_word_of

SAME = ("same",)


# What the first words are led back to tells it of all words: leading back
# goes along with making words of others.
def same(one, other):
    """("same",), or ("apart", setting, word) that show that they are not."""
    need_circuit(one, other)
    knobs = all_knobs((one, other))
    for letters in first_words(one.wires):
        found = first_parted(led_sum(one, letters, 1, knobs), led_sum(other, letters, 1, knobs), knobs)
        if found is not None:
            return "apart", found[1], Word(letters)
    return SAME


def shows_same(one, other, value):
    """Whether this value is such a result."""
    need_circuit(one, other)
    if is_told(value, SAME):
        return same(one, other) == SAME
    if not is_apart(one, other, value):
        return False
    _, setting, word = value
    angles = angles_of(setting)
    return led_at(one, word, angles) != led_at(other, word, angles)


def is_apart(one, other, value):
    """Whether this is ("apart", setting, word) with a setting of just all knobs and a Word of as many wires."""
    if not is_row(value, 3) or not is_told(value[:1], ("apart",)):
        return False
    return is_setting_of(value[1], all_knobs((one, other))) and is_word_of(value[2], one.wires)


def all_knobs(circuits):
    """The knobs of all these circuits, ascending."""
    return ascending([knob for circuit in circuits for knob in circuit.knobs])


def need_circuit(one, other):
    """Refuse what is no Circuit with as many wires as one."""
    if not isinstance(other, Circuit) or other.wires != one.wires:
        raise OtherSize(other)
