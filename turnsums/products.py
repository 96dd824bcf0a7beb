"""Round and straight sums of products, plainly and by turnings."""

from turnsums.errors import BadLength, NoRoot
from turnsums.plans import plan_length
from turnsums.turning import one_by_one, turned_or_plain

MOST_LENGTH = 240


def sum_all(ground, worths):
    """The sum of all worths of a list, nought of none."""
    told = ground.worth_of(0)
    for worth in worths:
        told = ground.sum_of(told, worth)
    return told


def straight_length(one, other):
    """How long the straight sum of rows of these lengths is."""
    return one + other - 1


def wrapped(ground, row, length):
    """The row wrapped round: at each place the sum of row's at it and each length further on."""
    return [sum_all(ground, row[place::length]) for place in range(length)]


def wraps(one, other, length):
    """The places, rising, that more than one place of the straight sum of rows of these lengths comes to."""
    return [place for place in range(length) if place + length < straight_length(one, other)]


def straight_plain(ground, one, other):
    """At each place the sum of all products of one's and other's whose places are this one together."""
    told = [ground.worth_of(0)] * straight_length(len(one), len(other))
    for at, worth in enumerate(one):
        for place, by in enumerate(other):
            told[at + place] = ground.sum_of(told[at + place], ground.product_of(worth, by))
    return told


def round_plain(ground, one, other):
    """As straight_plain, of rows of one length, but by the rests of the places by it."""
    return wrapped(ground, straight_plain(ground, one, other), len(one))


def round_by(ground, one, other, *, plan=None):
    """What round_plain tells, by turnings; BadLength(len(other)), BadLength(len(one)), NoRoot."""
    if len(one) != len(other):
        raise BadLength(len(other))
    turning = turned_or_plain(ground, plan, one)
    beside = turned_or_plain(ground, plan, other)
    return turned_or_plain(ground, plan, one_by_one(ground, turning, beside), back=True)


def root_length(ground, least):
    """The least length from this one to 240 of which the ground has a root, 0 where there's none."""
    for length in range(least, MOST_LENGTH + 1):
        if ground.has_root(length):
            return length
    return 0


def turning_length(ground, size, plan):
    """How long turnings for a straight sum of this size are; NoRoot(size), BadLength(the plan's)."""
    if plan is None:
        length = root_length(ground, size)
        if length == 0:
            raise NoRoot(size)
        return length
    if plan_length(plan) < size:
        raise BadLength(plan_length(plan))
    return plan_length(plan)


def filled(ground, row, length):
    """The row, filled up to the length with noughts."""
    return list(row) + [ground.worth_of(0)] * (length - len(row))


def straight_by(ground, one, other, *, plan=None):
    """What straight_plain tells, by turnings; NoRoot(both lengths less 1) without a plan; BadLength, NoRoot by one."""
    size = straight_length(len(one), len(other))
    length = turning_length(ground, size, plan)
    # So long a round sum wraps nothing: behind the straight one stand noughts.
    return round_by(ground, filled(ground, one, length), filled(ground, other, length), plan=plan)[:size]
