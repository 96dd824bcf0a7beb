"""Rows that stand for worths in one to three directions."""

from turnsums.errors import BadLength, BadOrder, NoRoot, NotCoprime
from turnsums.numbers import are_coprime, product
from turnsums.plans import plan_length
from turnsums.turning import check_roots, one_by_one, turned_or_plain


def check_length(row, sizes):
    """BadLength(len(row)) unless the row has a worth for each place of the sizes."""
    if len(row) != product(sizes):
        raise BadLength(len(row))


def lines_along(sizes, direction):
    """The lists of the places that lie one behind the other in a direction."""
    gap = product(sizes[direction + 1:])
    whole = sizes[direction] * gap
    starts = [start + at for start in range(0, product(sizes), whole) for at in range(gap)]
    return [list(range(start, start + whole, gap)) for start in starts]


def turned_along(ground, sizes, direction, plan, row, back):
    """The row with each line of a direction turned, by the PLAN, or plainly where it's None; NoShare(size)."""
    told = list(row)
    for places in lines_along(sizes, direction):
        line = turned_or_plain(ground, plan, [row[place] for place in places], back=back)
        for place, worth in zip(places, line):
            told[place] = worth
    return told


def plain_all(ground, sizes, row, *, back=False):
    """The row turned plainly in each direction, in rising order; BadLength(len(row)), NoRoot(size), NoShare(size)."""
    check_length(row, sizes)
    for size in sizes:
        if not ground.has_root(size):
            raise NoRoot(size)
    told = list(row)
    for direction in range(len(sizes)):
        told = turned_along(ground, sizes, direction, None, told, back)
    return told


def check_order(order, many):
    """BadOrder(order) unless so many directions stand in it once each, or none at all."""
    if len(order) > 0 and sorted(order) != list(range(many)):
        raise BadOrder(order)


def plan_sizes(plans):
    """The sizes of the rows that a list of plans turns."""
    return [plan_length(plan) for plan in plans]


def turn_all(ground, plans, row, *, back=False, order=()):
    """The row turned in each direction by its plan; BadLength(len(row)), BadOrder(order), NoRoot, NoShare(size)."""
    sizes = plan_sizes(plans)
    check_length(row, sizes)
    check_order(order, len(plans))
    for plan in plans:
        check_roots(ground, plan)
    told = list(row)
    for direction in order or list(range(len(plans))):
        told = turned_along(ground, sizes, direction, plans[direction], told, back)
    return told


def spot_of(sizes, place):
    """Where in each direction a place of the row is."""
    told = []
    for size in sizes[::-1]:
        told.append(place % size)
        place //= size
    return told[::-1]


def place_at(sizes, spot):
    """The place of the row that is there in each direction, by rests."""
    place = 0
    for size, at in zip(sizes, spot):
        place = place * size + at % size
    return place


def round_all(ground, sizes, one, other):
    """The round sum of products in each direction, plainly; BadLength(len(one)), BadLength(len(other))."""
    check_length(one, sizes)
    check_length(other, sizes)
    spots = [spot_of(sizes, place) for place in range(len(one))]
    told = [ground.worth_of(0)] * len(one)
    for worth, spot in zip(one, spots):
        for by, beside in zip(other, spots):
            place = place_at(sizes, [at + more for at, more in zip(spot, beside)])
            told[place] = ground.sum_of(told[place], ground.product_of(worth, by))
    return told


def round_all_by(ground, plans, one, other):
    """What round_all tells, by turnings; BadLength(len(one)), BadLength(len(other)), NoRoot."""
    sizes = plan_sizes(plans)
    check_length(one, sizes)
    check_length(other, sizes)
    turning = turn_all(ground, plans, one)
    beside = turn_all(ground, plans, other)
    return turn_all(ground, plans, one_by_one(ground, turning, beside), back=True)


def check_parts(row, first, second):
    """BadLength(len(row)); NotCoprime(1) where both have a divisor in common."""
    check_length(row, (first, second))
    if not are_coprime(first, second):
        raise NotCoprime(1)


def into_parts(row, first, second):
    """The row as two directions, by multiples of second and first; BadLength(len(row)), NotCoprime(1)."""
    check_parts(row, first, second)
    return [row[(second * at + first * beside) % len(row)] for at in range(first) for beside in range(second)]


def out_of_parts(row, first, second):
    """Two directions as a row, by rests by first and second; BadLength(len(row)), NotCoprime(1)."""
    check_parts(row, first, second)
    return [row[place_at((first, second), (place, place))] for place in range(len(row))]
