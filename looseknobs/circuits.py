"""Circuits over one to four wires, line by line."""

from looseknobs.errors import BadLine, BadPlace, Long, Many, NoLine, OtherSize
from looseknobs.kinds import is_whole
from looseknobs.lines import MOST_LINES, MOST_TURNS, is_turn, read_circuit, read_line
from looseknobs.sequences import ascending


class Circuit:
    """A circuit with this text; steps are what its lines are read as."""

    def __init__(self, text):
        wires, lines, steps = read_circuit(text)
        self._text = text
        self._lines = lines
        self.steps = steps
        self.wires = wires
        self.knobs = ascending([knob for step in steps if is_turn(step) for knob, many in step[3]])
        self.turns = tuple([number for number, step in enumerate(steps) if is_turn(step)])

    @property
    def text(self):
        """The lines, joined by line feeds."""
        return self._text

    @property
    def still(self):
        """The circuit that is left without its lines with knobs."""
        return _joined(self.wires, [line for line in self._lines if not _turns(line)])

    def __len__(self):
        return len(self._lines)

    def __getitem__(self, number):
        if not self._has(number):
            raise NoLine(number)
        return self._lines[number]

    def __iter__(self):
        raise TypeError("a circuit is not gone over: ask for its lines by number")

    def __eq__(self, other):
        return isinstance(other, Circuit) and self._text == other.text

    def __mul__(self, other):
        if not isinstance(other, Circuit):
            return NotImplemented
        if other.wires != self.wires:
            raise OtherSize(other)
        return _fitting(self.wires, [*self._lines, *_lines_of(other)])

    def __invert__(self):
        return _joined(self.wires, [_contrary(line) for line in self._lines[::-1]])

    def put(self, place, line):
        """The circuit with this line ahead of that with this number, or at the end."""
        if not is_whole(place) or not 0 <= place <= len(self._lines):
            raise BadPlace(place)
        if read_line(line, self.wires) is None:
            raise BadLine(line)
        return _fitting(self.wires, [*self._lines[:place], line, *self._lines[place:]])

    def without(self, number):
        """The circuit without this line."""
        if not self._has(number):
            raise NoLine(number)
        return _joined(self.wires, [*self._lines[:number], *self._lines[number + 1 :]])

    def _has(self, number):
        """Whether a line has this number."""
        return is_whole(number) and 0 <= number < len(self._lines)


def _lines_of(circuit):
    return circuit.text.split("\n")[1:]


def _joined(wires, lines):
    """The circuit of these lines."""
    return Circuit("\n".join([f"wires {wires}", *lines]))


def _fitting(wires, lines):
    """The circuit of these lines, if they are not too many."""
    if len(lines) > MOST_LINES:
        raise Long(MOST_LINES)
    if len([line for line in lines if _turns(line)]) > MOST_TURNS:
        raise Many(MOST_TURNS)
    return _joined(wires, lines)


def _turns(line):
    """Whether this is a line with knobs."""
    return line.startswith("turn ")


def _contrary(line):
    """The line that undoes what this one does."""
    name, about, *rest = line.split(" ")
    if name not in ("quarter", "turn"):
        return line
    other = about[1:] if about.startswith("-") else "-" + about
    return " ".join([name, other, *rest])
