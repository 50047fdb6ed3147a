"""Turns led to the beginning, and in how few layers they can be done."""

from looseknobs.circuits import Circuit
from looseknobs.errors import BadNumber, BadRows
from looseknobs.forms import joined, turned_back
from looseknobs.kinds import is_row, is_whole
from looseknobs.leading import pass_by
from looseknobs.sequences import rises
from looseknobs.sums import beginnings, fixed_images
from looseknobs.words import Word, signed_text

MOST_IN_LAYER = 6


def turned(circuit):
    """For each turn its Word, led to the beginning, and its (knob, many)."""
    return tuple([(Word(signed_text(letters, sign)), form) for letters, sign, form in beginnings(circuit)])


def layers(circuit):
    """(rows, chain): layers, and as many turns of which each does not pass the next one."""
    ahead = _all_ahead(circuit)
    rows = _early_rows(ahead)
    chain = []
    for row in rows[::-1]:
        fitting = [turn for turn in row if len(chain) == 0 or turn in ahead[chain[0]]]
        chain = [fitting[0], *chain]
    return rows, tuple(chain)


def shows_layers(circuit, value):
    """Whether this value is such a result."""
    ahead = _all_ahead(circuit)
    if not is_row(value, 2) or not _are_layers(value[0], ahead):
        return False
    rows, chain = value
    if not is_row(chain, len(rows)) or not _are_turns(chain, ahead):
        return False
    return all([one in ahead[other] for one, other in zip(chain, chain[1:])])


def packed(circuit, most):
    """(number, rows): the least number of layers with at most so many turns, and such layers."""
    _need_number(most)
    ahead = _all_ahead(circuit)
    everything = tuple(range(len(ahead)))
    reached = {(): ()}
    while everything not in reached:
        reached = _one_layer_more(reached, ahead, most)
    return len(reached[everything]), reached[everything]


def shows_packed(circuit, most, value):
    """Whether this value is such a result."""
    _need_number(most)
    if not is_row(value, 2) or not is_whole(value[0]) or not _are_layers(value[1], _all_ahead(circuit)):
        return False
    number, rows = value
    if any([len(row) > most for row in rows]):
        return False
    return number == len(rows) and number == packed(circuit, most)[0]


def laid(circuit, rows):
    """The Circuit with its turns at the beginning, layer by layer, and its fixed lines behind them."""
    if not _are_layers(rows, _all_ahead(circuit)):
        raise BadRows(rows)
    turns = turned(circuit)
    lines = [_line(turns[turn]) for row in rows for turn in row]
    first, *fixed = circuit.still.text.split("\n")
    return Circuit("\n".join([first, *lines, *fixed]))


def plain(circuit):
    """(rows, words): the turns, led to the beginning, and what the fixed lines do, told in one way."""
    rows = [(letters, form if sign > 0 else turned_back(form)) for letters, sign, form in beginnings(circuit)]
    return _first_sequence(_put_together(rows)), fixed_images(circuit)


def _all_ahead(circuit):
    """For each turn the earlier ones that it does not pass."""
    words = [letters for letters, sign, form in beginnings(circuit)]
    return [[other for other in range(turn) if not pass_by(words[other], words[turn])] for turn in range(len(words))]


def _early_rows(ahead):
    """Layers in which each turn stands as early as it can."""
    rows = []
    for turn, earlier in enumerate(ahead):
        level = 0
        for number, row in enumerate(rows):
            if any([other in earlier for other in row]):
                level = number + 1
        if level == len(rows):
            rows.append([])
        rows[level].append(turn)
    return tuple([tuple(row) for row in rows])


# All turns that can be done with so many layers are gone through, so the first
# layers with which all are done are as few as there can be.
def _one_layer_more(reached, ahead, most):
    """From turns that can be done, each with its layers, to those that can be done with one layer more."""
    made = {}
    for done in reached:
        free = [turn for turn in range(len(ahead)) if turn not in done and _all_done(ahead[turn], done)]
        for row in _choices(free, most):
            now = tuple([turn for turn in range(len(ahead)) if turn in done or turn in row])
            if now not in made:
                made[now] = (*reached[done], row)
    return made


def _choices(turns, most):
    """All rows of one or more of these turns, but at most so many."""
    rows = [()]
    for turn in turns:
        rows = [*rows, *[(*row, turn) for row in rows]]
    return [row for row in rows if 1 <= len(row) <= most]


def _all_done(turns, done):
    return all([turn in done for turn in turns])


def _are_layers(value, ahead):
    if not isinstance(value, tuple):
        return False
    done = []
    for row in value:
        if not isinstance(row, tuple) or len(row) == 0 or not _are_turns(row, ahead):
            return False
        # A turn that does not pass one of its own layer has it ahead, too.
        if not all([turn not in done and _all_done(ahead[turn], done) for turn in row]):
            return False
        done = [*done, *row]
    return len(done) == len(ahead)


def _are_turns(row, ahead):
    """Whether this tuple has ascending numbers of turns."""
    return all([is_whole(turn) and 0 <= turn < len(ahead) for turn in row]) and rises(row)


def _need_number(most):
    if not is_whole(most) or not 1 <= most <= MOST_IN_LAYER:
        raise BadNumber(most)


def _line(turn):
    """The line of a turn that is told by its Word and its (knob, many)."""
    word, form = turn
    pairs = [f"{many} {knob}" for knob, many in form]
    return " ".join([f"turn {word.text} by", *pairs])


def _put_together(rows):
    """The turns (letters, form) that are left when no two can be put together any more."""
    pair = _pair(rows)
    while pair is not None:
        one, other = pair
        letters, form = rows[one]
        form = joined(form, rows[other][1])
        middle = [(letters, form)] if len(form) > 0 else []
        rows = [*rows[:one], *middle, *rows[one + 1 : other], *rows[other + 1 :]]
        pair = _pair(rows)
    return rows


def _pair(rows):
    """The places of two turns that can be put together; None if there are none."""
    for other in range(len(rows)):
        for one in range(other):
            letters = rows[one][0]
            between = [row[0] for row in rows[one + 1 : other]]
            if letters == rows[other][0] and all([pass_by(letters, found) for found in between]):
                return one, other
    return None


def _first_sequence(rows):
    """The first one of all sequences in which any two that do not pass stand as they do."""
    found = []
    while len(rows) > 0:
        first = _first_free(rows)
        found.append(rows[first])
        rows = [row for place, row in enumerate(rows) if place != first]
    return tuple(found)


def _first_free(rows):
    """The place of the first one, as tuples, of those that pass all ahead of them."""
    found = 0
    for place, row in enumerate(rows):
        if row < rows[found] and all([pass_by(row[0], other[0]) for other in rows[:place]]):
            found = place
    return found
