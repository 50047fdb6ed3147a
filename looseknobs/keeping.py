"""Words that a circuit leaves alone, at all angles."""

from looseknobs.leading import led_through
from looseknobs.sums import fixed_steps, led_sum
from looseknobs.words import Word, all_letters, signed_text


def kept(circuit):
    """The letters of all Words that are led back to themselves."""
    return tuple([letters for letters, word in bound(circuit) if word.text == letters])


# A sum that hangs on no knob is what it is if no turn turns anything: then
# the fixed lines alone lead the word back.
def bound(circuit):
    """(letters, Word) for all Words that hang on no knob, with what they are led back to."""
    fixed = fixed_steps(circuit)
    found = []
    for letters in all_letters(circuit.wires)[1:]:
        if _hangs_on_none(circuit, letters):
            made, sign = led_through(fixed, letters, 1)
            found.append((letters, Word(signed_text(made, sign))))
    return tuple(found)


def _hangs_on_none(circuit, letters):
    found = led_sum(circuit, letters, 1, circuit.knobs)
    return all([many == 0 for made in found for row in found[made] for many in row])
