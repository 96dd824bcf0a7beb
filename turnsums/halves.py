"""Even rows, turned by one turning of half their length."""

from turnsums.errors import NoRoot, NotEven
from turnsums.products import sum_all
from turnsums.turning import turned_or_plain


def are_alike(one, other):
    """Whether two things are alike kind by kind, which == doesn't ask: there True is 1."""
    if not isinstance(one, (list, tuple)):
        return isinstance(one, bool) == isinstance(other, bool) and one == other
    if not isinstance(other, (list, tuple)) or isinstance(one, list) != isinstance(other, list):
        return False
    return len(one) == len(other) and all([are_alike(part, beside) for part, beside in zip(one, other)])


def first_unlike(row):
    """The first place from 1 on whose worth isn't like the one as far from the end, 0 where there's none."""
    for place in range(1, len(row) // 2):
        if not are_alike(row[place], row[-place]):
            return place
    return 0


def is_even(thing):
    """Whether a thing is an even row."""
    if not isinstance(thing, list) or len(thing) < 2 or len(thing) % 2 != 0:
        return False
    return first_unlike(thing) == 0


def half_of(row):
    """The first half of an even row and one worth more; NotEven(len(row)), NotEven(place)."""
    if len(row) % 2 != 0:
        raise NotEven(len(row))
    place = first_unlike(row)
    if place != 0:
        raise NotEven(place)
    return list(row[:len(row) // 2 + 1])


def even_from(half):
    """The even row whose half it is."""
    return list(half) + list(half[-2:0:-1])


def folded(ground, row):
    """The row of half the length that is turned for an even one."""
    told = []
    for place in range(0, len(row), 2):
        both = ground.sum_of(row[place], row[place + 1])
        told.append(ground.gap_of(both, row[place - 1]))
    return told


def unfolded(ground, turning, odd):
    """The half of an even row's turning, from that of the folded row and the sum of its worths at odd places."""
    size = len(turning)
    told = [ground.sum_of(turning[0], odd)]
    for place in range(1, size):
        # The worths at even places add the same at place and size - place, those at odd ones the same but for the
        # sign; folding took the latter times this gap, which is nought just at 0 and size.
        gap = ground.gap_of(ground.root_at(2 * size, -place), ground.root_at(2 * size, place))
        evens = ground.sum_of(turning[place], turning[size - place])
        odds = ground.shared_by(ground.gap_of(turning[place], turning[size - place]), gap)
        told.append(ground.shared_by(ground.sum_of(evens, odds), 2))
    told.append(ground.gap_of(turning[0], odd))
    return told


def half_turning(ground, half, *, plan=None):
    """The half of the turning of an even row, from the row's half; NoRoot(2 * h), BadLength(h), NoRoot."""
    length = 2 * (len(half) - 1)
    if not ground.has_root(length):
        raise NoRoot(length)
    row = even_from(half)
    turning = turned_or_plain(ground, plan, folded(ground, row))
    return unfolded(ground, turning, sum_all(ground, row[1::2]))


def half_back(ground, half, *, plan=None):
    """The half that half_turning turns to this one; refused as that is."""
    # An even row turned twice is itself, its length times: the way about makes no difference to it.
    turning = half_turning(ground, half, plan=plan)
    return [ground.shared_by(worth, 2 * (len(half) - 1)) for worth in turning]
