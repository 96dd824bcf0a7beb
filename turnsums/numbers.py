"""Primes, divisors, inverses and joined rests."""

from turnsums.errors import NoInverse, NotCoprime


def is_whole(thing):
    """Whether a thing is a number: Python counts True and False as such, the document doesn't."""
    return isinstance(thing, int) and not isinstance(thing, bool)


def is_prime(thing):
    """Whether a thing is a prime number."""
    return is_whole(thing) and thing > 1 and factors(thing) == [thing]


def factors(number):
    """The primes of a number from 1, rising, each as often as it divides it."""
    found = []
    divisor = 2
    while divisor * divisor <= number:
        if number % divisor == 0:
            found.append(divisor)
            number //= divisor
        else:
            divisor += 1
    # What is left has no divisor up to its own square root, so it is 1 or a prime.
    if number > 1:
        found.append(number)
    return found


def divisors(number):
    """All that divides a number from 1, rising, 1 and itself too."""
    low = []
    high = []
    divisor = 1
    while divisor * divisor <= number:
        if number % divisor == 0:
            low.append(divisor)
            # The divisor of a square that is its own partner stands there once.
            if divisor * divisor < number:
                high.append(number // divisor)
        divisor += 1
    return low + high[::-1]


def product(numbers):
    """The product of all numbers of a list, 1 of none."""
    told = 1
    for number in numbers:
        told *= number
    return told


def are_coprime(one, other):
    """Whether no number but 1 divides both."""
    while other != 0:
        one, other = other, one % other
    return one == 1


def inverse(number, by):
    """The number below by whose product with this one has the rest 1; NoInverse(number)."""
    high, low = by, number % by
    high_share, low_share = 0, 1
    # The rest of number times each share stays the remainder beside it.
    while low != 0:
        times = high // low
        high, low = low, high - times * low
        high_share, low_share = low_share, high_share - times * low_share
    found = high_share % by
    if number * found % by != 1:
        raise NoInverse(number)
    return found


def totient(number):
    """How many of 1 to number have no divisor but 1 in common with it."""
    told = number
    for prime in sorted(set(factors(number))):
        told = told // prime * (prime - 1)
    return told


def power_rest(number, power, by):
    """The rest of a power of a number, the power from 0, in as many steps as it has bits."""
    told = 1 % by
    number = number % by
    while power > 0:
        if power % 2 == 1:
            told = told * number % by
        number = number * number % by
        power //= 2
    return told


def generator(prime):
    """The least number from 1 on the rests of whose powers are all of 1 to prime less 1."""
    # Powers that come round too early do so at a power of prime less 1 over one of its primes.
    early = [(prime - 1) // factor for factor in sorted(set(factors(prime - 1)))]
    number = 1
    while any([power_rest(number, power, prime) == 1 for power in early]):
        number += 1
    return number


def check_coprime(bys):
    """NotCoprime(place) of the first place that isn't coprime with one ahead of it."""
    for place, by in enumerate(bys):
        if not all([are_coprime(by, ahead) for ahead in bys[:place]]):
            raise NotCoprime(place)


def joined(rests, bys):
    """The least number from 0 that has each rest by its by; NotCoprime(place)."""
    check_coprime(bys)
    told = 0
    product = 1
    for rest, by in zip(rests, bys):
        # By 1 every number has the rest 0, and nothing has an inverse.
        if by > 1:
            told += product * ((rest - told) * inverse(product, by) % by)
            product *= by
    return told
