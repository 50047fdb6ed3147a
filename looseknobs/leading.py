"""Words led back through fixed lines.

Words are reckoned with as letters and a sign here; fixed lines as lines.py reads them.
"""

from looseknobs.words import made_letters, quarters

# To what the letters at the wires of a line are led back: what the quarters
# make, as which the document tells these lines, one behind the other.
H = {"I": "I", "X": "Z", "Y": "-Y", "Z": "X"}
CZ = {
    "II": "II", "IX": "ZX", "IY": "ZY", "IZ": "IZ",
    "XI": "XZ", "XX": "YY", "XY": "-YX", "XZ": "XI",
    "YI": "YZ", "YX": "-XY", "YY": "XX", "YZ": "YI",
    "ZI": "ZI", "ZX": "IX", "ZY": "IY", "ZZ": "ZZ",
}
CX = {
    "II": "II", "IX": "IX", "IY": "ZY", "IZ": "ZZ",
    "XI": "XX", "XX": "XI", "XY": "YZ", "XZ": "-YY",
    "YI": "YX", "YX": "YI", "YY": "-XZ", "YZ": "XY",
    "ZI": "ZI", "ZX": "ZX", "ZY": "IY", "ZZ": "IZ",
}


def pass_by(one, other):
    """Whether words with these letters pass one another."""
    return quarters(one, other) % 2 == 0


def bent(one, other):
    """(letters, sign): what the word of these letters makes of one that it does not pass."""
    sign = 1 if (quarters(one, other) + 1) % 4 == 0 else -1
    return made_letters(one, other), sign


def led_through(steps, letters, sign):
    """(letters, sign): to what a word is led back through fixed lines."""
    for step in steps[::-1]:
        made, other = _through_one(step, letters)
        letters = made
        sign = sign * other
    return letters, sign


def first_words(wires):
    """The letters of X at wire 0, Z at wire 0, X at wire 1, and so on."""
    return [lone_letter(letter, at, wires) for at in range(wires) for letter in ("X", "Z")]


def lone_letter(letter, at, wires):
    """This letter at one wire, I at all others."""
    return "I" * at + letter + "I" * (wires - at - 1)


def _through_one(step, letters):
    """(letters, sign): to what a word with the sign 1 is led back through one fixed line."""
    name = step[0]
    if name == "h":
        return _exchanged(letters, step[1:], H[letters[step[1]]])
    if name in ("flip", "quarter"):
        return _through_about(step, letters)
    pair = letters[step[1]] + letters[step[2]]
    if name == "cz":
        return _exchanged(letters, step[1:], CZ[pair])
    if name == "cx":
        return _exchanged(letters, step[1:], CX[pair])
    return _exchanged(letters, step[1:], pair[::-1])


def _through_about(step, letters):
    name, about, turned = step
    if pass_by(about, letters):
        return letters, 1
    if name == "flip":
        return letters, -1
    made, sign = bent(about, letters)
    return made, sign * turned


def _exchanged(letters, places, text):
    """(letters, sign): these letters, but at some places those of a word's text."""
    row = list(letters)
    for place, letter in zip(places, text.removeprefix("-")):
        row[place] = letter
    return "".join(row), -1 if text.startswith("-") else 1
