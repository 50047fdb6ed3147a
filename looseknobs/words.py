"""Words of the letters I, X, Y, Z, one letter for each wire."""

from looseknobs.errors import BadWord, Crossing, OtherSize, Passing

LETTERS = "IXYZ"
MOST_WIRES = 4

# What two unlike letters other than I make at one wire.
THIRD = {"XY": "Z", "YX": "Z", "YZ": "X", "ZY": "X", "ZX": "Y", "XZ": "Y"}
QUARTER = {"XY": 1, "YZ": 1, "ZX": 1, "YX": -1, "ZY": -1, "XZ": -1}


class Word:
    """A row of letters with a sign."""

    def __init__(self, text):
        if not isinstance(text, str):
            raise BadWord(text)
        letters = text.removeprefix("-")
        if not are_letters(letters):
            raise BadWord(text)
        self.letters = letters
        self.sign = -1 if text.startswith("-") else 1

    @property
    def text(self):
        """The letters, with - ahead if the sign is -1."""
        return signed_text(self.letters, self.sign)

    def __len__(self):
        return len(self.letters)

    def __eq__(self, other):
        return isinstance(other, Word) and self.letters == other.letters and self.sign == other.sign

    def __neg__(self):
        return Word(signed_text(self.letters, -self.sign))

    def __mul__(self, other):
        if not isinstance(other, Word):
            return NotImplemented
        if len(other.letters) != len(self.letters):
            raise OtherSize(other)
        turned = quarters(self.letters, other.letters)
        if turned % 2 != 0:
            raise Crossing(other)
        return self._beside(other, turned)

    def bent(self, other):
        """The word that this one makes of one that it does not pass."""
        if self.passes(other):
            raise Passing(other)
        return self._beside(other, quarters(self.letters, other.letters) + 1)

    def passes(self, other):
        """Whether both pass one another."""
        need_word(other, len(self.letters))
        return quarters(self.letters, other.letters) % 2 == 0

    def _beside(self, other, turned):
        """The word that is made of both, so many quarters being turned."""
        sign = self.sign * other.sign
        if turned % 4 != 0:
            sign = -sign
        return Word(signed_text(made_letters(self.letters, other.letters), sign))


def need_word(value, wires):
    """Refuse what is no Word of so many wires."""
    if not isinstance(value, Word):
        raise BadWord(value)
    if len(value.letters) != wires:
        raise OtherSize(value)


def is_word_of(value, wires):
    """Whether this is a Word of so many wires."""
    return isinstance(value, Word) and len(value) == wires


def are_letters(text):
    """Whether this string is one to four of the letters I, X, Y, Z."""
    return 1 <= len(text) <= MOST_WIRES and all([letter in LETTERS for letter in text])


def all_letters(wires):
    """The letters of all words over so many wires, ascending: all I is the first one."""
    rows = [""]
    for _ in range(wires):
        rows = [row + letter for row in rows for letter in LETTERS]
    return rows


def signed_text(letters, sign):
    """The text of the word with these letters and this sign."""
    if sign < 0:
        return "-" + letters
    return letters


def quarters(one, other):
    """The sum of the quarters that two rows of letters make, wire by wire."""
    return sum([QUARTER.get(a + b, 0) for a, b in zip(one, other)])


def made_letters(one, other):
    """The letters that two rows of letters make, wire by wire."""
    return "".join([_made_letter(a, b) for a, b in zip(one, other)])


def _made_letter(one, other):
    if one == other:
        return "I"
    if one == "I":
        return other
    if other == "I":
        return one
    return THIRD[one + other]
