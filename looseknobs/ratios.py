"""Fractions of two integers, in least terms."""

from math import gcd

from looseknobs.errors import BadRatio, BadText
from looseknobs.kinds import is_whole

FIGURES = "0123456789"


class Ratio:
    """The fraction number / under; the attributes tell it in least terms."""

    def __init__(self, number, under=1):
        if not is_whole(number) or not is_whole(under) or under == 0:
            raise BadRatio((number, under))
        shared = gcd(number, under)
        if under < 0:
            shared = -shared
        self.number = number // shared
        self.under = under // shared

    # Made only when it is asked for: numbers may be reckoned with that are
    # too long for Python to write them out.
    @property
    def text(self):
        """Such as 3, -1/2 or 0."""
        if self.under == 1:
            return str(self.number)
        return f"{self.number}/{self.under}"

    @staticmethod
    def of(text):
        """The Ratio of which this is the text."""
        if not isinstance(text, str):
            raise BadText(text)
        head, bar, tail = text.removeprefix("-").partition("/")
        if bar == "":
            tail = "1"
        if not _all_figures(head) or not _all_figures(tail) or int(tail) == 0:
            raise BadText(text)
        number = int(head)
        if text.startswith("-"):
            number = -number
        made = Ratio(number, int(tail))
        # Whatever is not in least terms, or has needless signs, reads otherwise.
        if made.text != text:
            raise BadText(text)
        return made

    def __repr__(self):
        if self.under == 1:
            return f"Ratio({self.number})"
        return f"Ratio({self.number}, {self.under})"

    def __eq__(self, other):
        return isinstance(other, Ratio) and self.number == other.number and self.under == other.under

    def __add__(self, other):
        if not is_number(other):
            return NotImplemented
        number, under = _both(other)
        return Ratio(self.number * under + number * self.under, self.under * under)

    def __radd__(self, other):
        if not is_number(other):
            return NotImplemented
        number, under = _both(other)
        return Ratio(number * self.under + self.number * under, under * self.under)

    def __sub__(self, other):
        if not is_number(other):
            return NotImplemented
        number, under = _both(other)
        return Ratio(self.number * under - number * self.under, self.under * under)

    def __rsub__(self, other):
        if not is_number(other):
            return NotImplemented
        number, under = _both(other)
        return Ratio(number * self.under - self.number * under, under * self.under)

    def __mul__(self, other):
        if not is_number(other):
            return NotImplemented
        number, under = _both(other)
        return Ratio(self.number * number, self.under * under)

    def __rmul__(self, other):
        if not is_number(other):
            return NotImplemented
        number, under = _both(other)
        return Ratio(number * self.number, under * self.under)

    def __neg__(self):
        return Ratio(-self.number, self.under)

    def __lt__(self, other):
        if not is_number(other):
            return NotImplemented
        number, under = _both(other)
        return self.number * under < number * self.under

    def __le__(self, other):
        if not is_number(other):
            return NotImplemented
        number, under = _both(other)
        return self.number * under <= number * self.under

    def __gt__(self, other):
        if not is_number(other):
            return NotImplemented
        number, under = _both(other)
        return self.number * under > number * self.under

    def __ge__(self, other):
        if not is_number(other):
            return NotImplemented
        number, under = _both(other)
        return self.number * under >= number * self.under

    def divided(self, other):
        """The Ratio that, multiplied by other, is this one."""
        if not is_number(other):
            raise BadRatio(other)
        number, under = _both(other)
        if number == 0:
            raise BadRatio(other)
        return Ratio(self.number * under, self.under * number)


def is_number(value):
    """Whether this is an integer or a Ratio."""
    return is_whole(value) or isinstance(value, Ratio)


def as_ratio(number):
    """The Ratio that is this number."""
    if isinstance(number, Ratio):
        return number
    return Ratio(number)


def _both(value):
    """A number told as (number, under), under above 0."""
    if isinstance(value, Ratio):
        return value.number, value.under
    return value, 1


def _all_figures(text):
    """Whether there is at least one sign, and all are figures from 0 to 9."""
    return text != "" and all([sign in FIGURES for sign in text])
