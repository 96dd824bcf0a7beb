"""The orders in which worths stand."""

from turnsums.errors import BadLength
from turnsums.numbers import is_whole


def is_order(thing):
    """Whether a thing is a list of the numbers from 0 below its length, each once, one at least."""
    if not isinstance(thing, list) or not thing or not all([is_whole(part) for part in thing]):
        return False
    return sorted(thing) == list(range(len(thing)))


def inverse_order(order):
    """The ORDER that puts back what this one puts elsewhere."""
    told = [0] * len(order)
    for at, place in enumerate(order):
        told[place] = at
    return told


def put_in_order(row, order):
    """The list with row's i-th at place order's i-th; BadLength(len(row))."""
    if len(row) != len(order):
        raise BadLength(len(row))
    return [row[at] for at in inverse_order(order)]


def round_from(order, start):
    """The places that follow each other in an ORDER from one on, until it comes again."""
    told = [start]
    place = order[start]
    while place != start:
        told.append(place)
        place = order[place]
    return told


def order_cycles(order):
    """The rounds of two places at least, each from its least on, rising."""
    told = []
    seen = set()
    for start in range(len(order)):
        if start in seen or order[start] == start:
            continue
        places = round_from(order, start)
        for place in places:
            seen.add(place)
        told.append(places)
    return told


def turned_order(parts):
    """The ORDER of a row turned in place by these parts: the digits of each place, read the other way about."""
    told = [0]
    for part in parts:
        # So far told has as many numbers as the product of the parts ahead.
        told = [number + len(told) * digit for number in told for digit in range(part)]
    return told
