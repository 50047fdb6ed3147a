"""What fixed lines do, told by tables of words, and fixed lines for such tables."""

from looseknobs.circuits import Circuit
from looseknobs.errors import BadImages, OtherSize
from looseknobs.leading import first_words, pass_by
from looseknobs.likeness import all_knobs, need_circuit
from looseknobs.sums import fixed_images, led_sum
from looseknobs.words import MOST_WIRES, Word, all_letters, is_word_of, made_letters, need_word, signed_text

# Which letter it is, by whether it passes X, and whether it passes Z.
LETTER_BESIDE = {(True, True): "I", (False, True): "Z", (True, False): "X", (False, False): "Y"}


class Table:
    """To which Words fixed lines lead back X at wire 0, Z at wire 0, X at wire 1, and so on."""

    def __init__(self, images):
        if not _are_images(images):
            raise BadImages(images)
        self.images = images
        self.wires = len(images) // 2

    def __eq__(self, other):
        return isinstance(other, Table) and self.images == other.images

    def __mul__(self, other):
        if not isinstance(other, Table):
            return NotImplemented
        if other.wires != self.wires:
            raise OtherSize(other)
        return Table(tuple([self.back(image) for image in other.images]))

    def __invert__(self):
        return Table(tuple([self._led_to(letters) for letters in first_words(self.wires)]))

    def back(self, word):
        """The Word to which this one is led back."""
        need_word(word, self.wires)
        made = Word(signed_text("I" * self.wires, word.sign))
        for wire, letter in enumerate(word.letters):
            if letter != "I":
                made = made * self._image(letter, wire)
        return made

    def _image(self, letter, wire):
        """To which Word this letter at one wire is led back: Y is X bent Z."""
        x, z = self.images[2 * wire : 2 * wire + 2]
        if letter == "X":
            return x
        if letter == "Z":
            return z
        return x.bent(z)

    # Words that pass one another are led back to such, others to others.
    def _led_to(self, letters):
        """The Word that is led back to these letters, with the sign 1."""
        passing = [pass_by(letters, image.letters) for image in self.images]
        word = Word(_letters_beside(passing))
        if self.back(word).sign < 0:
            return -word
        return word


def table_of(circuit):
    """The Table of the fixed lines of a circuit."""
    return Table(fixed_images(circuit))


# Quarters make the letters, and one half round about a word makes the signs:
# it gives the other sign just to those that do not pass this word.
def gates(table):
    """A Circuit of fixed lines with this Table."""
    lines = [f"quarter {about}" for about in _quarters_to(table)]
    circuit = Circuit("\n".join([f"wires {table.wires}", *lines]))
    now = table_of(circuit)
    about = _letters_beside([one == other for one, other in zip(now.images, table.images)])
    if about == "I" * table.wires:
        return circuit
    return circuit.put(len(circuit), f"flip {about}")


def shows_gates(table, value):
    """Whether this value is such a result."""
    return isinstance(value, Circuit) and len(value.turns) == 0 and table_of(value) == table


# With all knobs at the angle 0 no turn does anything: so only one Table can be it.
def behind(one, other):
    """The Table of the fixed lines that, behind one, do with it the same as other; None if there are none."""
    need_circuit(one, other)
    found = ~table_of(one) * table_of(other)
    knobs = all_knobs((one, other))
    for letters, image in zip(first_words(one.wires), found.images):
        if led_sum(one, image.letters, image.sign, knobs) != led_sum(other, letters, 1, knobs):
            return None
    return found


def _are_images(value):
    if not isinstance(value, tuple) or len(value) % 2 != 0 or not 1 <= len(value) // 2 <= MOST_WIRES:
        return False
    if not all([is_word_of(word, len(value) // 2) for word in value]):
        return False
    return all([value[at].passes(value[by]) == (at // 2 != by // 2) for at in range(len(value)) for by in range(at)])


def _letters_beside(passing):
    """The letters of the word that passes X at wire 0, Z at wire 0, X at wire 1, and so on, just as told."""
    return "".join([LETTER_BESIDE[x, z] for x, z in zip(passing[::2], passing[1::2])])


def _quarters_to(table):
    """The letters of lines `quarter` that lead words back as this Table tells, but for signs."""
    now = [image.letters for image in table.images]
    wanted = first_words(table.wires)
    found = []
    for at in range(len(wanted)):
        for about in _ways(now[at], wanted[at], wanted[:at]):
            now = [_moved(letters, about) for letters in now]
            found.append(about)
    return found


# Two rows of letters that do not pass are led to one another by a quarter
# about what both make; others by way of a third one that passes neither.
def _ways(now, goal, done):
    """The letters of lines `quarter` that lead one row of letters to another one, all that are done staying."""
    if now == goal:
        return ()
    if not pass_by(now, goal):
        return (made_letters(now, goal),)
    middles = [one for one in all_letters(len(now)) if not pass_by(now, one) and not pass_by(one, goal)]
    pairs = [(made_letters(now, one), made_letters(one, goal)) for one in middles]
    return [pair for pair in pairs if all([pass_by(about, one) for about in pair for one in done])][0]


def _moved(letters, about):
    """The letters to which a quarter about others leads these."""
    if pass_by(about, letters):
        return letters
    return made_letters(about, letters)
