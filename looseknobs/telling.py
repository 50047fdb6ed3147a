"""Which of some circuits it was, by what was read."""

from looseknobs.angles import angles_of, is_setting, is_setting_of
from looseknobs.circuits import Circuit
from looseknobs.errors import BadLooks, BadSuspects, Settled
from looseknobs.kinds import is_row
from looseknobs.leading import lone_letter
from looseknobs.likeness import SAME, all_knobs, same
from looseknobs.ratios import Ratio, as_ratio, is_number
from looseknobs.sequences import ascending
from looseknobs.starts import Start, mean_at, read_from
from looseknobs.sums import led_at
from looseknobs.words import Word, is_word_of

MOST_SUSPECTS = 8
MOST_LOOKS = 8


def left(suspects, looks):
    """The numbers of the suspects that can be hidden by all looks, those together that do the same."""
    _need_looks(suspects, looks)
    rows = []
    for number, circuit in enumerate(suspects):
        if all([_fits(circuit, one) for one in looks]):
            rows = _with_number(rows, number, suspects)
    return tuple([tuple(row) for row in rows])


# At the setting that parts two classes they lead a word back to unlike sums.
# Of all starts with one letter, with either sign, at each wire, at least one
# tells the unlike number of these letters.
def look(suspects, looks):
    """A setting, a start and a word by which not all classes have the same mean."""
    one, other = [suspects[row[0]] for row in _unsettled(suspects, looks)[:2]]
    _, setting, word = same(one, other)
    angles = angles_of(setting)
    start = _parting_start(led_at(one, word, angles), led_at(other, word, angles))
    return _filled(setting, all_knobs(suspects)), start, word


def shows_look(suspects, looks, value):
    """Whether this value is such a result."""
    classes = _unsettled(suspects, looks)
    wires = suspects[0].wires
    if not is_row(value, 3) or not is_setting_of(value[0], all_knobs(suspects)):
        return False
    setting, start, word = value
    if not _is_start_of(start, wires) or not is_word_of(word, wires):
        return False
    numbers = [mean_at(suspects[row[0]], start, word, setting) for row in classes]
    return any([number != numbers[0] for number in numbers])


def _unsettled(suspects, looks):
    """The classes that are left, two or more."""
    classes = left(suspects, looks)
    if len(classes) < 2:
        raise Settled(None)
    return classes


def _with_number(rows, number, suspects):
    """The rows with this number in that of what does the same, or in a new one."""
    for at, row in enumerate(rows):
        if same(suspects[row[0]], suspects[number]) == SAME:
            return [*rows[:at], [*row, number], *rows[at + 1 :]]
    return [*rows, [number]]


def _fits(circuit, told):
    """Whether the circuit can be hidden by this look."""
    setting, start, word, number = told
    return mean_at(circuit, start, word, setting) == as_ratio(number)


def _parting_start(found, wanted):
    """A Start from which two unlike sums of words, dicts of letters and numbers, are not read alike."""
    nought = Ratio(0)
    unlike = [one for one in ascending([*found, *wanted]) if found.get(one, nought) != wanted.get(one, nought)]
    starts = _starts_about(unlike[0])
    return [start for start in starts if read_from(start, found) != read_from(start, wanted)][0]


def _starts_about(letters):
    """All Starts with these letters, Z in the place of I, with either sign at each wire."""
    rows = [()]
    for wire, letter in enumerate(letters):
        word = Word(lone_letter("Z" if letter == "I" else letter, wire, len(letters)))
        rows = [(*row, one) for row in rows for one in (word, -word)]
    return [Start(row) for row in rows]


def _filled(setting, knobs):
    """The setting of all these knobs that has this one's angles, and the angle 0 for all others."""
    rows = {row[0]: row for row in setting}
    return tuple([rows.get(knob, (knob, Ratio(1), Ratio(0))) for knob in knobs])


def _need_looks(suspects, looks):
    if not _are_suspects(suspects):
        raise BadSuspects(suspects)
    if not isinstance(looks, tuple) or len(looks) > MOST_LOOKS:
        raise BadLooks(looks)
    knobs = all_knobs(suspects)
    if not all([_is_look(one, suspects[0].wires, knobs) for one in looks]):
        raise BadLooks(looks)


def _are_suspects(value):
    if not isinstance(value, tuple) or not 1 <= len(value) <= MOST_SUSPECTS:
        return False
    if not all([isinstance(one, Circuit) for one in value]):
        return False
    return all([one.wires == value[0].wires for one in value])


def _is_look(value, wires, knobs):
    """Whether this is (setting, start, word, number) for circuits of so many wires with these knobs."""
    if not is_row(value, 4) or not is_setting(value[0]):
        return False
    setting, start, word, number = value
    has = [row[0] for row in setting]
    if not all([knob in has for knob in knobs]):
        return False
    return _is_start_of(start, wires) and is_word_of(word, wires) and is_number(number)


def _is_start_of(value, wires):
    return isinstance(value, Start) and value.wires == wires
