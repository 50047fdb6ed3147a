"""Journals: texts of what was done at a bench."""

from looseknobs.benches import Bench
from looseknobs.circuits import Circuit
from looseknobs.deeds import deed_line, do_deed, read_deed
from looseknobs.errors import BadCircuit, BadJournal, BadStart, BadWord, KnobError
from looseknobs.starts import Start
from looseknobs.words import Word


def journal(bench):
    """The text from which this bench can be made again."""
    words = [word.text for word in bench.start.words]
    deeds = [deed_line(deed) for deed in bench.deeds]
    return "\n".join([bench.first.text, " ".join(["start", *words]), "deeds", *deeds])


def read_journal(text):
    """The Bench on which this was done."""
    if not isinstance(text, str):
        raise BadJournal(0)
    lines = text.split("\n")
    ahead = _lines_ahead(lines)
    circuit = _read_first(lines[:ahead])
    if len(lines) == ahead:
        raise BadJournal(ahead + 1)
    start = _read_start(lines[ahead], circuit.wires)
    if start is None:
        raise BadJournal(ahead + 1)
    if len(lines) == ahead + 1 or lines[ahead + 1] != "deeds":
        raise BadJournal(ahead + 2)
    bench = Bench(circuit, start)
    for at in range(ahead + 2, len(lines)):
        if not _is_done(bench, lines[at]):
            raise BadJournal(at + 1)
    return bench


def _lines_ahead(lines):
    """How many lines stand ahead of the first one that begins with "start " or is "deeds"."""
    for at, line in enumerate(lines):
        if line.startswith("start ") or line == "deeds":
            return at
    return len(lines)


def _read_first(lines):
    """The Circuit of these lines."""
    try:
        return Circuit("\n".join(lines))
    except BadCircuit as error:
        raise BadJournal(error.value) from None


def _read_start(line, wires):
    """The Start of so many wires that this line tells; None if it tells none."""
    name, *texts = line.split(" ")
    if name != "start":
        return None
    try:
        start = Start(tuple([Word(text) for text in texts]))
    except (BadWord, BadStart):
        return None
    return start if start.wires == wires else None


def _is_done(bench, line):
    """Whether this line tells a deed that the bench did, and did not refuse."""
    deed = read_deed(line)
    if deed is None:
        return False
    try:
        do_deed(bench, deed)
    except KnobError:
        return False
    return True
