"""Starts, and what is read behind a circuit from there: sums of waves."""

from looseknobs.angles import angles_of
from looseknobs.errors import BadStart, OtherSize
from looseknobs.kinds import is_told
from looseknobs.lattices import level_rows
from looseknobs.likeness import SAME, all_knobs, is_apart, need_circuit
from looseknobs.parting import first_parted
from looseknobs.ratios import Ratio
from looseknobs.spreads import spread
from looseknobs.sums import led_at, led_words, rows_in
from looseknobs.waves import Wave
from looseknobs.words import Word, is_word_of, need_word


class Start:
    """Words that are 1 at the start; signs tells, by letters, what all products of them are there."""

    def __init__(self, words):
        if not _are_words(words):
            raise BadStart(words)
        products = _products(words)
        self.words = words
        self.wires = len(words)
        self.signs = {word.letters: word.sign for word in products}
        # Of two products with the same letters the one makes of the other all I.
        if len(self.signs) < len(products):
            raise BadStart(words)

    def __eq__(self, other):
        return isinstance(other, Start) and self.words == other.words

    def sign_of(self, word):
        """1 or -1 if this Word or the one with the other sign is a product of the words; otherwise 0."""
        need_word(word, self.wires)
        return self.signs.get(word.letters, 0) * word.sign

    def like(self, other):
        """Whether this is a Start with as many wires that tells the same of all Words."""
        return isinstance(other, Start) and self.signs == other.signs


def mean(circuit, start, word):
    """The Wave that is read for this Word behind the circuit, from the start."""
    need_start(circuit, start)
    total = Wave(())
    for letters, wave in spread(circuit, word).terms:
        total = total + wave * start.signs.get(letters, 0)
    return total


def alike_from(one, other, start):
    """("same",), or ("apart", setting, word) that show that both are not alike from the start."""
    need_circuit(one, other)
    need_start(one, start)
    knobs = all_knobs((one, other))
    found = first_parted(_means(one, start, knobs), _means(other, start, knobs), knobs)
    if found is None:
        return SAME
    letters, setting = found
    return "apart", setting, Word(letters)


def shows_alike_from(one, other, start, value):
    """Whether this value is such a result."""
    need_circuit(one, other)
    need_start(one, start)
    if is_told(value, SAME):
        return alike_from(one, other, start) == SAME
    if not is_apart(one, other, value):
        return False
    _, setting, word = value
    return mean_at(one, start, word, setting) != mean_at(other, start, word, setting)


def hidden_from(circuit, start):
    """The rows whose sums of multiples are the shifts that change no mean."""
    need_start(circuit, start)
    return level_rows(rows_in([_means(circuit, start, circuit.knobs)]), len(circuit.knobs))


def hangs_from(circuit, start, word):
    """The knobs on which this mean hangs."""
    return mean(circuit, start, word).knobs


def mean_at(circuit, start, word, setting):
    """The number that is read for this Word at a setting that has all knobs of the circuit."""
    return read_from(start, led_at(circuit, word, angles_of(setting)))


def read_from(start, numbers):
    """The number that is read from the start for a sum of words: a dict of letters and numbers."""
    total = Ratio(0)
    for letters in numbers:
        total = total + numbers[letters] * start.signs.get(letters, 0)
    return total


def need_start(circuit, start):
    """Refuse a Start that has not as many wires."""
    if start.wires != circuit.wires:
        raise OtherSize(start)


# What is read for a word behind the circuit is how much of it there is in what
# the products of the start's words are led to by the circuit: the contrary
# circuit leads them back to just this.
def _means(circuit, start, knobs):
    """The means of all words at all angles, by letters, with a place for each of these knobs."""
    return led_words(~circuit, start.signs, knobs)


def _are_words(value):
    """Whether this is a tuple of Words, as many as each of them has wires, any two of which pass one another."""
    if not isinstance(value, tuple) or len(value) == 0:
        return False
    if not all([is_word_of(word, len(value)) for word in value]):
        return False
    return all([word.passes(other) for word in value for other in value])


def _products(words):
    """The Words that are made of some of these words, each taken once; of none: all I."""
    found = [Word("I" * len(words))]
    for word in words:
        found = [*found, *[made * word for made in found]]
    return found
