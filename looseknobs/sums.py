"""Words led back through whole circuits, at all angles or at told ones.

Turns led to the beginning stand ahead of all fixed lines, without changing what
the circuit does: so a word is led back through the fixed lines first, and
through the turns then.

A sum at all angles is a dict of letters, each with its *part*: a dict of rows of
integers, one for each of some knobs. Such a row tells how often the angle of
each knob goes round, and has the integers (a, b) for the number a + b * i. At
some angles a part is the sum, over its rows, of these numbers times the power
of e to i times the row's angle; all are SCALE times what is meant, so that
they are integers. Of rows that differ none can be reckoned from the others:
two parts are the same at all angles if and only if they have the same rows.
"""

from looseknobs.angles import angle_of
from looseknobs.leading import bent, first_words, led_through, pass_by
from looseknobs.lines import MOST_TURNS, is_turn
from looseknobs.ratios import Ratio
from looseknobs.words import Word, signed_text

SCALE = 64


def beginnings(circuit):
    """(letters, sign, form) for each turn, its word led to the beginning."""
    fixed = []
    found = []
    for step in circuit.steps:
        if is_turn(step):
            letters, sign = led_through(fixed, step[1], step[2])
            found.append((letters, sign, step[3]))
        else:
            fixed.append(step)
    return found


def fixed_steps(circuit):
    """What the fixed lines are read as."""
    return [step for step in circuit.steps if not is_turn(step)]


def fixed_images(circuit):
    """The Words to which the fixed lines lead back X at wire 0, Z at wire 0, X at wire 1, and so on."""
    fixed = fixed_steps(circuit)
    images = [led_through(fixed, letters, 1) for letters in first_words(circuit.wires)]
    return tuple([Word(signed_text(letters, sign)) for letters, sign in images])


def led_sum(circuit, letters, sign, knobs):
    """To what this word is led back at all angles, with a place for each of these knobs."""
    return led_words(circuit, {letters: sign}, knobs)


def led_words(circuit, signs, knobs):
    """To what the sum of words is led back that is told by a dict of letters and signs."""
    turns = beginnings(circuit)
    fixed = fixed_steps(circuit)
    nowhere = tuple([0 for _ in knobs])
    whole = 1 << (MOST_TURNS - len(turns))
    found = {}
    for letters in signs:
        made, sign = led_through(fixed, letters, signs[letters])
        found[made] = {nowhere: (sign * whole, 0)}
    for about, turned, form in turns[::-1]:
        many = dict(form)
        row = tuple([many.get(knob, 0) * turned for knob in knobs])
        found = _turned_sum(found, about, row)
    return found


def first_sums(circuit, knobs):
    """The sums of X at wire 0, Z at wire 0, X at wire 1, and so on: they tell those of all words."""
    return [led_sum(circuit, letters, 1, knobs) for letters in first_words(circuit.wires)]


def rows_in(sums):
    """The rows that stand in any of these sums."""
    return list({row: True for found in sums for letters in found for row in found[letters]})


def led_at(circuit, word, angles):
    """To what this word is led back at these angles: its letters, with numbers other than 0."""
    letters, sign = led_through(fixed_steps(circuit), word.letters, word.sign)
    found = {letters: Ratio(sign)}
    for about, turned, form in beginnings(circuit)[::-1]:
        a, b, d = angle_of(form, angles)
        found = _turned_numbers(found, about, Ratio(a, d), Ratio(b * turned, d))
    return found


# Twice the cosine is the sum of both powers of e, twice the sine is -i times
# one of them and i times the other: a part that stays is doubled, too.
def _turned_sum(found, about, row):
    """The sum led back through a turn about the word of these letters, by the angle of this row."""
    contrary = tuple([-many for many in row])
    made = {}
    for letters in found:
        part = found[letters]
        if pass_by(about, letters):
            _add(made, letters, {old: (2 * part[old][0], 2 * part[old][1]) for old in part})
        else:
            other, sign = bent(about, letters)
            on = {_beside(old, row): part[old] for old in part}
            back = {_beside(old, contrary): part[old] for old in part}
            _add(made, letters, on)
            _add(made, letters, back)
            _add(made, other, {new: (sign * on[new][1], -sign * on[new][0]) for new in on})
            _add(made, other, {new: (-sign * back[new][1], sign * back[new][0]) for new in back})
    return {letters: made[letters] for letters in made if made[letters]}


def _add(found, letters, part):
    """Add a part to that of these letters; what is 0 then goes."""
    if letters not in found:
        found[letters] = {}
    whole = found[letters]
    for row in part:
        a, b = whole.get(row, (0, 0))
        c, d = part[row]
        if a + c == 0 and b + d == 0:
            whole.pop(row, None)
        else:
            whole[row] = (a + c, b + d)


def _beside(one, other):
    return tuple([many + more for many, more in zip(one, other)])


def _turned_numbers(found, about, cosine, sine):
    """The numbers led back through a turn about the word of these letters."""
    rows = []
    for letters in found:
        number = found[letters]
        if pass_by(about, letters):
            rows.append((letters, number))
        else:
            other, sign = bent(about, letters)
            rows.append((letters, number * cosine))
            rows.append((other, number * sine * sign))
    made = {}
    for letters, number in rows:
        made[letters] = made.get(letters, 0) + number
    return {letters: made[letters] for letters in made if made[letters].number != 0}
