"""Lines that tell what is done at a bench: ("put", place, line), ("drop", number), and so on."""

from looseknobs.errors import BadText
from looseknobs.ratios import Ratio


def read_deed(line):
    """The deed that this string tells; None if it has no such form."""
    words = line.split(" ")
    if "" in words:
        return None
    name, *rest = words
    if name == "put" and len(rest) >= 2:
        return _of_number(name, rest[0], [" ".join(rest[1:])])
    if name in ("drop", "exchange") and len(rest) == 1:
        return _of_number(name, rest[0], [])
    if name == "loosen" and len(rest) == 1:
        return name, rest[0]
    if name == "fix" and len(rest) == 3:
        return _of_angle(rest)
    return None


def do_deed(bench, deed):
    """Do a deed at a bench."""
    name, *rest = deed
    if name == "put":
        bench.put(*rest)
    elif name == "drop":
        bench.drop(*rest)
    elif name == "exchange":
        bench.exchange(*rest)
    elif name == "fix":
        bench.fix(*rest)
    else:
        bench.loosen(*rest)


def deed_line(deed):
    """The line that tells a deed."""
    return " ".join([part.text if isinstance(part, Ratio) else str(part) for part in deed])


def _of_number(name, text, rest):
    number = _ratio_of(text)
    if number is None or number.under != 1:
        return None
    return name, number.number, *rest


def _of_angle(rest):
    knob, cosine, sine = rest
    c = _ratio_of(cosine)
    s = _ratio_of(sine)
    if c is None or s is None:
        return None
    return "fix", knob, c, s


def _ratio_of(text):
    """The Ratio of which this is the text; None if it is of none."""
    try:
        return Ratio.of(text)
    except BadText:
        return None
