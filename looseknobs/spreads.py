"""What a word behind a circuit is led back to."""

from looseknobs.angles import angles_of, is_setting
from looseknobs.errors import BadSetting, BadWord
from looseknobs.sequences import ascending
from looseknobs.sums import SCALE, led_sum
from looseknobs.waves import Wave, need_angles, told_wave
from looseknobs.words import are_letters, need_word


class Spread:
    """A sum of words over so many wires, each times a Wave: a dict of letters and waves."""

    def __init__(self, wires, waves):
        self._wires = wires
        self._waves = waves
        self.terms = tuple([(letters, waves[letters]) for letters in ascending(list(waves))])
        self.knobs = ascending([knob for letters in waves for knob in waves[letters].knobs])

    def __len__(self):
        return len(self.terms)

    def __eq__(self, other):
        return isinstance(other, Spread) and self._wires == other._wires and self.terms == other.terms

    def part(self, letters):
        """The Wave of these letters."""
        if not isinstance(letters, str) or len(letters) != self._wires or not are_letters(letters):
            raise BadWord(letters)
        if letters in self._waves:
            return self._waves[letters]
        return Wave(())

    def at(self, setting):
        """The letters and their numbers at a setting."""
        if not is_setting(setting):
            raise BadSetting(setting)
        need_angles(self.knobs, angles_of(setting))
        rows = [(letters, wave.at(setting)) for letters, wave in self.terms]
        return tuple([(letters, number) for letters, number in rows if number.number != 0])


def spread(circuit, word):
    """To what this Word, behind the circuit, is led back."""
    need_word(word, circuit.wires)
    found = led_sum(circuit, word.letters, word.sign, circuit.knobs)
    return Spread(circuit.wires, {letters: _wave(found[letters], circuit.knobs) for letters in found})


# A row and its contrary have numbers of which one is as the other, with the
# other sign at i: together they are twice a cosine and twice a sine.
def _wave(part, knobs):
    """The Wave that is this part of a sum with a place for each of these knobs."""
    rows = []
    for row in part:
        a, b = part[row]
        form = tuple([(knob, many) for knob, many in zip(knobs, row) if many != 0])
        if len(form) == 0:
            rows.append((form, a, 0, SCALE))
        elif form[0][1] > 0:
            rows.append((form, 2 * a, -2 * b, SCALE))
    return told_wave(rows)
