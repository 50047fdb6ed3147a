"""The cheapest lines to be put into a circuit, by which wishes come true."""

from looseknobs.circuits import Circuit
from looseknobs.errors import BadOffers, BadWishes
from looseknobs.kinds import is_name, is_row, is_whole
from looseknobs.layers import layers
from looseknobs.likeness import SAME, same
from looseknobs.lines import MOST_LINES, MOST_TURNS, is_turn, read_line
from looseknobs.seeing import hangs
from looseknobs.sequences import ascending, rises
from looseknobs.spreads import spread
from looseknobs.waves import Wave
from looseknobs.words import is_word_of

MOST_OFFERS = 4
MOST_WISHES = 3
HIGHEST_PRICE = 9


def cheapest(circuit, offers, wishes):
    """("choice", price, choice, reasons) with the first choice by which all wishes come true; or ("none", reasons)."""
    if not _are_offers(offers, circuit):
        raise BadOffers(offers)
    if not _are_wishes(wishes, circuit.wires):
        raise BadWishes(wishes)
    reasons = []
    for price, _, choice in _choices(offers):
        if len(circuit) + len(choice) <= MOST_LINES:
            failed = _first_failed(_with_choice(circuit, choice), wishes)
            if failed is None:
                return "choice", price, choice, tuple(reasons)
            reasons.append((choice, failed))
    return "none", tuple(reasons)


def _choices(offers):
    """(price, how many offers, choice) for all choices, in their sequence."""
    choices = [()]
    for offer in offers:
        choices = [*choices, *[(*choice, offer) for choice in choices]]
    return ascending([(sum([price for place, line, price in choice]), len(choice), choice) for choice in choices])


# From the last offer on, so that the places of those ahead of it stay as they were.
def _with_choice(circuit, choice):
    """The circuit with these lines put in."""
    for place, line, price in choice[::-1]:
        circuit = circuit.put(place, line)
    return circuit


def _first_failed(circuit, wishes):
    """The number of the first wish that does not come true; None if all do."""
    for number, wish in enumerate(wishes):
        if not _comes_true(circuit, wish):
            return number
    return None


def _comes_true(circuit, wish):
    if wish[0] == "kept":
        return spread(circuit, wish[1]).terms == ((wish[1].letters, Wave((((), 1, 0),))),)
    if wish[0] == "free":
        return wish[2] not in hangs(circuit, wish[1])
    if wish[0] == "layers":
        return len(layers(circuit)[0]) <= wish[1]
    return same(circuit, wish[1]) == SAME


def _are_offers(value, circuit):
    if not isinstance(value, tuple) or not 1 <= len(value) <= MOST_OFFERS:
        return False
    return all([_is_offer(offer, circuit) for offer in value]) and rises(value)


def _is_offer(value, circuit):
    if not is_row(value, 3):
        return False
    place, line, price = value
    if not is_whole(place) or not 0 <= place <= len(circuit) or not is_whole(price) or not 1 <= price <= HIGHEST_PRICE:
        return False
    step = read_line(line, circuit.wires)
    return step is not None and not is_turn(step)


def _are_wishes(value, wires):
    if not isinstance(value, tuple) or not 1 <= len(value) <= MOST_WISHES:
        return False
    return all([_is_wish(wish, wires) for wish in value])


def _is_wish(value, wires):
    if is_row(value, 3):
        return value[0] == "free" and is_word_of(value[1], wires) and is_name(value[2])
    if not is_row(value, 2):
        return False
    name, wished = value
    if name == "kept":
        return is_word_of(wished, wires) and wished.sign > 0 and wished.letters != "I" * wires
    if name == "layers":
        return is_whole(wished) and 0 <= wished <= MOST_TURNS
    return name == "same" and isinstance(wished, Circuit) and wished.wires == wires
