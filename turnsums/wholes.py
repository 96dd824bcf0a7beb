"""Straight sums of whole numbers, exactly, by rests."""

from turnsums.errors import TooSmall
from turnsums.numbers import check_coprime, joined, product
from turnsums.products import root_length, straight_by, straight_length
from turnsums.rests import Rests
from turnsums.words import PRIMES


def reach(one, other):
    """What no number of the straight sum goes beyond, either way."""
    greatest = max([abs(number) for number in one]) * max([abs(number) for number in other])
    return min(len(one), len(other)) * greatest


def is_enough(primes, most):
    """Whether all whole numbers to most, either way, have rests of their own by the primes together."""
    return product(primes) > 2 * most


def sum_by(ground, one, other):
    """The straight sum of two rows of whole numbers by rests; NoRoot."""
    rests = [[ground.worth_of(number) for number in row] for row in (one, other)]
    return straight_by(ground, rests[0], rests[1])


def signed(number, most, by):
    """The number to most, either way, that has the rest of this one."""
    return number if number <= most else number - by


def whole_product(one, other, primes):
    """The straight sum of two rows of whole numbers; BadGround(prime), NotCoprime(place), TooSmall(reach), NoRoot."""
    grounds = [Rests(prime) for prime in primes]
    # Of primes just those that stand there twice aren't coprime.
    check_coprime(primes)
    most = reach(one, other)
    if not is_enough(primes, most):
        raise TooSmall(most)
    sums = [sum_by(ground, one, other) for ground in grounds]
    whole = product(primes)
    return [signed(joined(list(rests), primes), most, whole) for rests in zip(*sums)]


def has_room(prime, size):
    """Whether straight_by finds a root for a sum of this size by the prime."""
    return root_length(Rests(prime), size) > 0


def primes_for(one, other):
    """As many of PRIMES as whole_product needs, those with a root, in their order; TooSmall(reach)."""
    size = straight_length(len(one), len(other))
    most = reach(one, other)
    told = []
    for prime in PRIMES:
        if has_room(prime, size):
            told.append(prime)
            if is_enough(told, most):
                return told
    raise TooSmall(most)
