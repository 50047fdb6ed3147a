"""Sums of angles of knobs, told as tuples of (knob, many)."""

from looseknobs.kinds import is_name, is_row, is_whole
from looseknobs.sequences import ascending, rises


def is_turns(value):
    """Whether this is a form in which the first integer is above 0, or none at all."""
    return is_form(value) and (len(value) == 0 or value[0][1] > 0)


def is_form(value):
    """Whether this is an ascending tuple of (knob, integer other than 0), no knob twice."""
    if not isinstance(value, tuple):
        return False
    for row in value:
        if not is_row(row, 2) or not is_name(row[0]) or not is_whole(row[1]) or row[1] == 0:
            return False
    return rises([row[0] for row in value])


def joined(one, other):
    """The form of the sum of both angles."""
    times = {}
    for knob, many in [*one, *other]:
        times[knob] = times.get(knob, 0) + many
    return tuple([(knob, times[knob]) for knob in ascending(list(times)) if times[knob] != 0])


def turned_back(form):
    """The form of the contrary angle."""
    return tuple([(knob, -many) for knob, many in form])
