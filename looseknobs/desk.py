"""A desk to which lines are said, and which answers them."""

from looseknobs.deeds import do_deed, read_deed
from looseknobs.errors import BadSay
from looseknobs.journals import read_journal
from looseknobs.seeing import seen
from looseknobs.words import Word


class Desk:
    """A desk with the bench of a journal."""

    def __init__(self, text):
        self.bench = read_journal(text)

    def say(self, line):
        """The answer to a line: it is done, or it is told what was asked for."""
        if not isinstance(line, str) or "\n" in line:
            raise BadSay(line)
        deed = read_deed(line)
        if deed is not None:
            do_deed(self.bench, deed)
            return "ok"
        name, *rest = line.split(" ")
        if len(rest) == 0:
            return self._answer(line)
        if name not in ("read", "hangs") or len(rest) > 1 or rest[0] == "":
            raise BadSay(line)
        if name == "read":
            return self.bench.read(Word(rest[0])).text
        return " ".join(self.bench.mean(Word(rest[0])).knobs)

    def _answer(self, line):
        """The answer to a line of one word."""
        if line == "undo":
            self.bench.undo()
            return "ok"
        if line == "redo":
            self.bench.redo()
            return "ok"
        if line == "seen":
            return str(seen(self.bench.circuit))
        if line == "knobs":
            return " ".join([knob for knob in self.bench.circuit.knobs if knob in self.bench])
        raise BadSay(line)
