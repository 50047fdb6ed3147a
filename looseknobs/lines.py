"""The lines of a circuit, read one by one.

A fixed line is read as ("flip", letters, sign), ("quarter", letters, sign), ("h", a),
("cz", a, b), ("cx", a, b) or ("swap", a, b); a line with knobs as ("turn", letters, sign, form).
"""

from looseknobs.errors import BadCircuit
from looseknobs.kinds import is_name
from looseknobs.sequences import ascending
from looseknobs.words import Word, are_letters

MOST_LINES = 40
MOST_TURNS = 6
MOST_KNOBS = 3

SIZES = {"wires 1": 1, "wires 2": 2, "wires 3": 3, "wires 4": 4}
WIRES = ("0", "1", "2", "3")
TIMES = {"1": 1, "2": 2, "3": 3, "4": 4, "-1": -1, "-2": -2, "-3": -3, "-4": -4}
ABOUT = ("flip", "quarter")
PAIRS = ("cz", "cx", "swap")


def read_circuit(text):
    """(wires, lines, steps): how many wires, the texts of the lines, and what each is read as."""
    if not isinstance(text, str):
        raise BadCircuit(0)
    first, *lines = text.split("\n")
    if first not in SIZES:
        raise BadCircuit(1)
    wires = SIZES[first]
    steps = []
    turns = 0
    for number, line in enumerate(lines):
        step = read_line(line, wires)
        if step is not None and is_turn(step):
            turns += 1
        if step is None or turns > MOST_TURNS or number == MOST_LINES:
            raise BadCircuit(number + 2)
        steps.append(step)
    return wires, tuple(lines), tuple(steps)


def read_line(line, wires):
    """What this is read as; None for what is no line of a circuit of so many wires."""
    if not isinstance(line, str):
        return None
    name, *rest = line.split(" ")
    if name == "turn":
        return _read_turn(rest, wires)
    if name in ABOUT:
        return _read_about(name, rest, wires)
    if name == "h" and len(rest) == 1 and _are_wires(rest, wires):
        return name, int(rest[0])
    if name in PAIRS and len(rest) == 2 and _are_wires(rest, wires):
        return name, int(rest[0]), int(rest[1])
    return None


def is_turn(step):
    """Whether this is what a line with knobs is read as."""
    return step[0] == "turn"


def _read_about(name, rest, wires):
    if len(rest) != 1 or not _is_about(rest[0], wires):
        return None
    word = Word(rest[0])
    return name, word.letters, word.sign


def _read_turn(rest, wires):
    if len(rest) < 4 or len(rest) > 2 + 2 * MOST_KNOBS or len(rest) % 2 != 0:
        return None
    about, by, *pairs = rest
    times, knobs = pairs[::2], pairs[1::2]
    if by != "by" or not _is_about(about, wires) or not all([many in TIMES for many in times]):
        return None
    if not all([is_name(knob) for knob in knobs]) or len(set(knobs)) != len(knobs):
        return None
    word = Word(about)
    form = ascending([(knob, TIMES[many]) for many, knob in zip(times, knobs)])
    return "turn", word.letters, word.sign, form


def _is_about(text, wires):
    """Whether this is the text of a Word of so many wires, not all I."""
    letters = text.removeprefix("-")
    return len(letters) == wires and are_letters(letters) and letters != "I" * wires


def _are_wires(texts, wires):
    """Whether these are unlike wires out of so many."""
    return all([text in WIRES[:wires] for text in texts]) and len(set(texts)) == len(texts)
