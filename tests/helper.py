"""What several tests need: values of any kind, drawn circuits, and a going through circuits of the tests' own."""

import random
from fractions import Fraction

from looseknobs.circuits import Circuit
from looseknobs.ratios import Ratio
from looseknobs.waves import Wave
from looseknobs.words import Word

LETTERS = "IXYZ"
ROW_KNOBS = ("a", "b", "cc")
SLANTED = ((3, 4, 5), (4, 3, 5), (5, 12, 13), (12, -5, 13), (-8, 15, 17), (20, 21, 29), (-7, -24, 25), (9, 40, 41))
QUARTERS = ((1, 0), (0, 1), (-1, 0), (0, -1))

TIMES = ("1", "2", "3", "4", "-1", "-2", "-3", "-4")
NO_TIMES = ("0", "5", "-5", "-0", "+1", "01", "1.0", "1/2", "", "k", "--1", "- 1", "10", "9", "11", "a")
NO_NAMES = ("", "abcdefghi", "K", "Kk", "k1", "k_", "-k", "1", "X", "k,")

# Lines that can stand in a circuit of two wires, and such as cannot.
RIGHT = (
    ["flip XI", "flip -IZ", "flip YX", "quarter ZZ", "quarter -XY", "h 0", "h 1"]
    + [f"{kind} {a} {b}" for kind in ("cz", "cx", "swap") for a, b in ("01", "10")]
    + [f"turn XZ by {many} k" for many in TIMES]
    + [
        "turn -YI by 1 k", "turn XX by 1 abcdefgh", "turn XX by 1 turn", "turn XX by 1 by", "turn XX by 1 h -1 cx",
        "turn XX by 2 b -3 a 4 c", "turn XX by 1 wires 1 flip 1 quarter", "turn XX by 1 a 1 b 1 c", "turn XX by 1 k 2 m",
    ]
)
WRONG = (
    [f"{kind} {word}" for kind in ("flip", "quarter") for word in (
        "II", "-II", "X", "XXX", "-X", "xx", "XA", "", "--XX", "+XX", "X-X", "XX XX", "XX ", " XX", "0", "0 1")]
    + [f"{kind} {rest}" for kind in ("flip", "quarter", "h", "cz", "cx", "swap", "turn") for rest in ("by 1 k", "XX k", "0 1 0")]
    + [f"h {wire}" for wire in ("2", "3", "-1", "00", "01", "", " 0", "0 ", "0 0", "X", "ZI", "+0", "1.", "0 1")]
    + [f"{kind} {rest}" for kind in ("cz", "cx", "swap") for rest in (
        "0 0", "1 1", "0 2", "2 0", "0", "", "0  1", "0 1 ", " 0 1", "0 1 1", "0,1", "a b", "00 1", "0 01", "-1 0", "XX", "0 -1")]
    + [f"turn XX by {many} k" for many in NO_TIMES]
    + [f"turn XX by 1 {name}" for name in NO_NAMES]
    + [f"turn {word} by 1 k" for word in ("II", "-II", "X", "XXX", "xx", "", "--XX", "+XX", "by")]
    + [
        "turn XX", "turn XX by", "turn XX by 1", "turn XX by k", "turn XX by k 1", "turn XX 1 k", "turn XX at 1 k",
        "turn XX By 1 k", "turn by 1 k", "turn XX by 1 k 1", "turn XX by 1 k 1 k", "turn XX by 1 k -1 k",
        "turn XX by 1 k 2 m 3 k", "turn XX by 1 a 1 b 1 c 1 d", "turn XX by 1 a 1 b 1 c 1", "turn XX by 1 k ",
        "turn  XX by 1 k", "turn XX  by 1 k", "turn XX by  1 k", "turn XX by 1  k", " turn XX by 1 k", "turn XX by 1 k, 1 m",
        "turn XX by 1k", "turn XX by 1*k", "turns XX by 1 k", "Turn XX by 1 k", "turn XX by 1 k by 1 m", "turn 0 by 1 k",
        "", " ", "wires 2", "wires", "h", "cx", "flip", "quarter", "swap", "cz", "turn", "H 0", "CX 0 1", "x 0", "z 0",
        "cnot 0 1", "hh 0", " h 0", "h 0 ", "h  0", "# h 0", "flop XX", "quarters XX", "deeds", "start XX", "-flip XX",
    ]
)

NO_SETTINGS = [
    [], [("k", 1, 0)], (["k", 1, 0],), {"k": (1, 0)}, ("k", 1, 0), ((),), (("k",),), (("k", 1),), (("k", 1, 0, 0),),
    (("k", 1, 0), ("k", 1, 0)), (("k", 1, 0), ("k", 0, 1)), (("m", 1, 0), ("k", 1, 0)), (("b", 1, 0), ("ab", 1, 0)),
    (("k", 1, 0), ["m", 1, 0]), (("K", 1, 0),), (("", 1, 0),), (("abcdefghi", 1, 0),), (("k1", 1, 0),), ((1, 1, 0),),
    ((None, 1, 0),), ((("k",), 1, 0),), ((["k"], 1, 0),), (("k", 1, 1),), (("k", 0, 0),), (("k", 2, 0),), (("k", True, 0),),
    (("k", 1, False),), (("k", "1", 0),), (("k", None, 1),), (("k", 1.0, 0),), (("k", Ratio(1, 2), Ratio(1, 2)),), (("k", [1], 0),),
    (("k", Ratio(3, 5), Ratio(4, 6)),), (("k", Ratio(3, 5), 1),), (("a", 1, 0), ("k", Ratio(3, 5), Ratio(3, 5))),
    (("k", Wave((((), 1, 0),)), 0),), (("k", Word("X"), 0),), (("a", 1, 0), 5), (("a", 1, 0), None),
]


def any_values():
    """Values of each kind that a caller may hand in."""
    return [
        0, 1, -1, 2, 10 ** 399, True, False, None, "", "k", "X", "same", "a text\nof lines", (), (1,), ("k",), ("same",),
        [], [1, 2], ["same"], {}, {"k": 1}, [[(None,)]], Ratio(1), Ratio(0), Ratio(-1, 2), Word("X"), Word("-XY"),
        Word("IIII"), Wave(()), Wave((((), 1, 0),)), Circuit("wires 1"), Circuit("wires 2\nh 0"), deep(30),
    ]


def deep(depth):
    value = 1
    for level in range(depth):
        value = [value] if level % 2 else (value,)
    return value


def refused(test, kind, value, act, *handed, **named):
    """The call raises just this error, about this very value."""
    with test.assertRaises(kind) as caught:
        act(*handed, **named)
    test.assertIs(type(caught.exception), kind)
    test.assertIs(caught.exception.value, value)


def refused_about(test, kind, value, act, *handed, **named):
    """The call raises just this error, about what is equal to this value, and of its kind."""
    with test.assertRaises(kind) as caught:
        act(*handed, **named)
    test.assertIs(type(caught.exception), kind)
    test.assertEqual(caught.exception.value, value)
    test.assertIs(type(caught.exception.value), type(value))


# Words as (sign, letters), by section 5.

def quarter(one, other):
    if one == other or "I" in (one, other):
        return 0
    return 1 if one + other in ("XY", "YZ", "ZX") else -1


def quarters(one, other):
    return sum(quarter(a, b) for a, b in zip(one, other))


def passes(one, other):
    return quarters(one, other) % 2 == 0


def made(one, other):
    def letter(a, b):
        if a == b:
            return "I"
        if "I" in (a, b):
            return a if b == "I" else b
        return next(c for c in "XYZ" if c not in (a, b))

    return "".join(letter(a, b) for a, b in zip(one, other))


def signed(text):
    return (-1, text[1:]) if text.startswith("-") else (1, text)


def bent(one, other):
    """(sign, letters) of one bent other, each (sign, letters)."""
    sign = one[0] * other[0]
    turned = quarters(one[1], other[1])
    assert turned % 2 != 0
    return (sign if (turned + 1) % 4 == 0 else -sign), made(one[1], other[1])


def times(one, other):
    """(sign, letters) of one * other, each (sign, letters), which pass."""
    sign = one[0] * other[0]
    turned = quarters(one[1], other[1])
    assert turned % 2 == 0
    return (sign if turned % 4 == 0 else -sign), made(one[1], other[1])


# Lines by the table of section 7, and leading back by section 8.


def at(wires, *pairs):
    row = ["I"] * wires
    for wire, letter in pairs:
        row[int(wire)] = letter
    return "".join(row)


def expanded(line, wires):
    """The line as lines `flip`, `quarter` and `turn`."""
    name, *rest = line.split(" ")
    if name == "h":
        return ["quarter " + at(wires, (rest[0], letter)) for letter in "ZXZ"]
    if name == "cz":
        a, b = rest
        about = ("-" + at(wires, (a, "Z"), (b, "Z")), at(wires, (a, "Z")), at(wires, (b, "Z")))
        return ["quarter " + word for word in about]
    if name in ("cx", "swap"):
        a, b = rest
        lines = [f"h {b}", f"cz {a} {b}", f"h {b}"] if name == "cx" else [f"cx {a} {b}", f"cx {b} {a}", f"cx {a} {b}"]
        return [found for one in lines for found in expanded(one, wires)]
    return [line]


def added(one, other):
    return one[0] * other[0] - one[1] * other[1], one[0] * other[1] + one[1] * other[0]


def many_times(angle, many):
    if many < 0:
        return many_times((angle[0], -angle[1]), -many)
    total = (Fraction(1), Fraction(0))
    for _ in range(many):
        total = added(total, angle)
    return total


def angle_of(form, angles):
    total = (Fraction(1), Fraction(0))
    for knob, many in form:
        total = added(total, many_times(angles[knob], many))
    return total


def form_of(line):
    """The pairs (knob, many) of a line `turn`, as they stand."""
    rest = line.split(" ")[3:]
    return [(knob, int(many)) for many, knob in zip(rest[::2], rest[1::2])]


def back_by_line(line, numbers, angles):
    name, about = line.split(" ")[:2]
    word = signed(about)
    found = {}
    for letters, number in numbers.items():
        if passes(word[1], letters):
            rows = [(letters, number)]
        elif name == "flip":
            rows = [(letters, -number)]
        else:
            sign, other = bent(word, (1, letters))
            c, s = (0, 1) if name == "quarter" else angle_of(form_of(line), angles)
            rows = [(letters, c * number), (other, s * sign * number)]
        for place, more in rows:
            found[place] = found.get(place, Fraction(0)) + more
    return {letters: number for letters, number in found.items() if number != 0}


def back(text, word, angles=()):
    """To what the text of a word is led back at these angles, a dict of letters and fractions."""
    angles = dict(angles)
    first, *lines = text.split("\n")
    wires = int(first.split(" ")[1])
    sign, letters = signed(word)
    numbers = {letters: Fraction(sign)}
    for line in [found for one in lines for found in expanded(one, wires)][::-1]:
        numbers = back_by_line(line, numbers, angles)
    return numbers


# Settings: fractions for the tests' own going, Ratios for the program.

def fraction(number):
    return Fraction(number) if type(number) is int else Fraction(number.number, number.under)


def ratio(number):
    number = Fraction(number)
    return Ratio(number.numerator, number.denominator)


def check_setting(test, setting, knobs):
    """The setting is told as a tuple of just these knobs, with Ratios."""
    test.assertIs(type(setting), tuple)
    test.assertEqual([row[0] for row in setting], list(knobs))
    for knob, c, s in setting:
        test.assertIsInstance(c, Ratio)
        test.assertIsInstance(s, Ratio)
        test.assertEqual(c * c + s * s, Ratio(1))


def angles_of(setting):
    return {knob: (fraction(c), fraction(s)) for knob, c, s in setting}


def setting_of(angles):
    return tuple((knob, ratio(c), ratio(s)) for knob, (c, s) in sorted(angles.items()))


def some_angles(rng, knobs, slanted=True):
    found = {}
    for knob in knobs:
        if slanted:
            a, b, d = rng.choice(SLANTED)
            found[knob] = (Fraction(a, d), Fraction(b, d))
        else:
            found[knob] = tuple(Fraction(n) for n in rng.choice(QUARTERS))
    return found


def told_numbers(rows):
    """What Spread.at tells, as a dict of fractions."""
    return {letters: fraction(number) for letters, number in rows}


# Sums of waves as rows (form, cosine, sine) with fractions.

def some_turns(rng):
    while True:
        form = tuple((knob, many) for knob in ROW_KNOBS for many in [rng.randint(-3, 3)] if many != 0)
        if not form or form[0][1] > 0:
            return form


def some_rows(rng, most=4):
    """Terms as (turns, cosine, sine), with fractions."""
    rows = {}
    for _ in range(rng.randint(0, most)):
        turns = some_turns(rng)
        c, s = Fraction(rng.randint(-4, 4), rng.randint(1, 3)), Fraction(rng.randint(-4, 4), rng.randint(1, 3))
        s = s if turns else Fraction(0)
        if c != 0 or s != 0:
            rows[turns] = (c, s)
    return [(turns, c, s) for turns, (c, s) in rows.items()]


def wave_of(rows):
    return Wave(tuple((turns, ratio(c), ratio(s)) for turns, c, s in rows))


def by_hand(rows):
    """Rows (form, cosine, sine) told in the one way: a dict of what is not 0."""
    found = {}
    for form, c, s in rows:
        if form and form[0][1] < 0:
            form, s = tuple((knob, -many) for knob, many in form), -s
        old = found.get(form, (0, 0))
        found[form] = (old[0] + c, (old[1] + s) if form else 0)
    return {form: pair for form, pair in found.items() if pair != (0, 0)}


def product_by_hand(rows, others):
    made = []
    for one, c, s in rows:
        for two, e, f in others:
            for sign in (1, -1):
                many = dict(one)
                for knob, more in two:
                    many[knob] = many.get(knob, 0) + sign * more
                form = tuple(sorted((knob, n) for knob, n in many.items() if n != 0))
                made.append((form, (c * e - sign * s * f) / 2, (s * e + sign * c * f) / 2))
    return made


def terms_of(wave):
    return {turns: (fraction(c), fraction(s)) for turns, c, s in wave.terms}


def value(rows, angles):
    total = Fraction(0)
    for form, c, s in rows:
        cosine, sine = angle_of(form, angles)
        total += c * cosine + s * sine
    return total


# Drawn circuits.

def some_word(rng, wires, signs=("", "-")):
    while True:
        letters = "".join(rng.choice(LETTERS) for _ in range(wires))
        if letters != "I" * wires:
            return rng.choice(signs) + letters


def some_fixed(rng, wires):
    kinds = ["flip", "quarter", "h"] + (["cz", "cx", "swap"] if wires > 1 else [])
    kind = rng.choice(kinds)
    if kind in ("flip", "quarter"):
        return f"{kind} {some_word(rng, wires)}"
    if kind == "h":
        return f"h {rng.randrange(wires)}"
    a, b = rng.sample(range(wires), 2)
    return f"{kind} {a} {b}"


def some_turn(rng, wires, knobs, most=3):
    names = rng.sample(list(knobs), min(len(knobs), rng.randint(1, most)))
    pairs = [f"{rng.choice((1, 2, 3, 4, -1, -2, -3, -4))} {knob}" for knob in names]
    return f"turn {some_word(rng, wires)} by " + " ".join(pairs)


def some_text(rng, wires, fixed, turns, knobs, most=3):
    """The text of a drawn circuit, with so many fixed lines and so many turns."""
    lines = [some_fixed(rng, wires) for _ in range(fixed)] + [some_turn(rng, wires, knobs, most) for _ in range(turns)]
    rng.shuffle(lines)
    return "\n".join([f"wires {wires}"] + lines)


def some_circuits(seed, many, turns=4, fixed=6, knobs=("a", "b", "c", "d")):
    """Drawn circuits of all sizes."""
    rng = random.Random(seed)
    texts = [
        some_text(rng, 1 + number % 4, rng.randint(0, fixed), rng.randint(0, turns), knobs) for number in range(many)
    ]
    return [Circuit(text) for text in texts]


def large_text(seed, wires=4):
    """Forty lines, six of them turns with three knobs of their own each."""
    rng = random.Random(seed)
    names = ["k" + letter for letter in "abcdefghijklmnopqr"]
    lines = [some_fixed(rng, wires) for _ in range(34)]
    for turn in range(6):
        pairs = [f"{rng.choice((1, 2, 3, 4, -1, -2, -3, -4))} {knob}" for knob in names[3 * turn : 3 * turn + 3]]
        lines.insert(rng.randrange(len(lines) + 1), f"turn {some_word(rng, wires)} by " + " ".join(pairs))
    return "\n".join([f"wires {wires}"] + lines)


def all_letters(wires):
    rows = [""]
    for _ in range(wires):
        rows = [row + letter for row in rows for letter in LETTERS]
    return rows


def first_words(wires):
    return [at(wires, (wire, letter)) for wire in range(wires) for letter in "XZ"]


def lines_of(circuit):
    return circuit.text.split("\n")[1:]


def with_lines(wires, lines):
    return Circuit("\n".join([f"wires {wires}"] + list(lines)))


# Starts: any Z-like words, led through drawn fixed lines.

def some_start(rng, wires):
    """The texts of drawn words that make a start."""
    fixed = "\n".join([f"wires {wires}"] + [some_fixed(rng, wires) for _ in range(8)])
    found = []
    for wire in rng.sample(range(wires), wires):
        ((letters, sign),) = back(fixed, at(wires, (wire, "Z"))).items()
        found.append(("" if sign * rng.choice((1, -1)) > 0 else "-") + letters)
    return found


def products(words):
    """What all products of these words are: a dict of letters and signs."""
    rows = [(1, "I" * len(signed(words[0])[1]))]
    for word in words:
        rows = rows + [times(row, signed(word)) for row in rows]
    return {letters: sign for sign, letters in rows}


def mean_at(text, words, word, angles=()):
    """What is read for a word at these angles, from a start with these words."""
    signs = products(words)
    return sum((number * signs.get(letters, 0) for letters, number in back(text, word, angles).items()), Fraction(0))


# Whole-number clearing.

def cleared(vectors, size):
    """A whole-number clearing: rows whose sums are all that make 0 with each vector, told in the one way."""
    rows = [[vector[at] for vector in vectors] + [int(at == place) for place in range(size)] for at in range(size)]
    kept = echelon(rows, len(vectors) + size)
    rows = [row[len(vectors):] for row in kept if not any(row[: len(vectors)])]
    return tuple(tuple(row) for row in echelon(rows, size))


def echelon(rows, width):
    rows = [list(row) for row in rows]
    top = 0
    for column in range(width):
        while True:
            below = sorted((abs(row[column]), at) for at, row in enumerate(rows) if at >= top and row[column])
            if not below:
                break
            least = below[0][1]
            rows[top], rows[least] = rows[least], rows[top]
            if rows[top][column] < 0:
                rows[top] = [-n for n in rows[top]]
            for at, row in enumerate(rows):
                if at != top and (at > top or len(below) == 1):
                    times = row[column] // rows[top][column]
                    rows[at] = [a - times * b for a, b in zip(row, rows[top])]
            if len(below) == 1:
                top += 1
                break
    return rows


def is_sum(row, rows):
    """Whether this row is a sum of multiples of rows that are told in the one way."""
    for other in rows:
        place = next(at for at, n in enumerate(other) if n != 0)
        times, rest = divmod(row[place], other[place])
        if rest:
            return False
        row = tuple(a - times * b for a, b in zip(row, other))
    return not any(row)


# Wires and knobs exchanged for others, and turns left out.

def exchanged_wires(circuit, places):
    """The circuit over other wires: what was at wire a is at wire places[a]; and how words are exchanged."""
    def word(text):
        sign, letters = signed(text)
        row = [""] * len(letters)
        for place, letter in enumerate(letters):
            row[places[place]] = letter
        return ("-" if sign < 0 else "") + "".join(row)

    lines = []
    for line in lines_of(circuit):
        name, *rest = line.split(" ")
        if name in ("flip", "quarter", "turn"):
            rest[0] = word(rest[0])
        else:
            rest = [str(places[int(wire)]) for wire in rest]
        lines.append(" ".join([name] + rest))
    return with_lines(circuit.wires, lines), word


def renamed(circuit, names):
    lines = []
    for line in lines_of(circuit):
        row = line.split(" ")
        if row[0] == "turn":
            row[4::2] = [names[knob] for knob in row[4::2]]
        lines.append(" ".join(row))
    return with_lines(circuit.wires, lines)


def renamed_wave(wave, names):
    total = Wave(())
    for turns, c, s in wave.terms:
        told = tuple(sorted((names[knob], many) for knob, many in turns))
        if told and told[0][1] < 0:
            told, s = tuple((knob, -many) for knob, many in told), -s
        total = total + Wave(((told, c, s),))
    return total


def groups(circuit):
    """Rows of numbers of lines, with their knobs: turns that share knobs stand in one row."""
    rows = []
    for number in circuit.turns:
        knobs = {knob for knob, many in form_of(circuit[number])}
        near = [row for row in rows if row[1] & knobs]
        rows = [row for row in rows if not row[1] & knobs]
        rows.append((sum([row[0] for row in near], []) + [number], knobs.union(*[row[1] for row in near])))
    return rows


def left_out(circuit, knobs):
    """The circuit without the turns that have any of these knobs."""
    lines = [
        line for line in lines_of(circuit)
        if not (line.startswith("turn ") and {knob for knob, many in form_of(line)} & knobs)
    ]
    return with_lines(circuit.wires, lines)
