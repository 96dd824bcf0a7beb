"""The ground of the rests by a prime."""

from turnsums.errors import BadGround, NoRoot, NoShare
from turnsums.numbers import generator, inverse, is_prime, is_whole, power_rest

MOST_PRIME = 10000


class Rests:
    """Worths are the numbers from 0 below a prime, and all is done by rests; BadGround(prime)."""

    def __init__(self, prime):
        # The bound goes first: whether a far greater number is a prime would take too long to tell.
        if not is_whole(prime) or prime > MOST_PRIME or not is_prime(prime):
            raise BadGround(prime)
        self.prime = prime
        # Kept, since each root is a power of it.
        self.base = generator(prime)

    def __eq__(self, other):
        return isinstance(other, Rests) and self.prime == other.prime

    def __str__(self):
        return f"rests {self.prime}"

    def __repr__(self):
        return f"rests {self.prime}"

    def has_root(self, length):
        """Whether there is a root of the length."""
        return length > 0 and (self.prime - 1) % length == 0

    def is_worth(self, thing):
        """Whether a thing is a number from 0 below the prime."""
        return is_whole(thing) and 0 <= thing < self.prime

    def worth_of(self, number):
        """The worth that a whole number is."""
        return number % self.prime

    def sum_of(self, one, other):
        """One and the other."""
        return (one + other) % self.prime

    def gap_of(self, one, other):
        """One less the other."""
        return (one - other) % self.prime

    def product_of(self, one, other):
        """One times the other."""
        return one * other % self.prime

    def root_at(self, length, power):
        """A power of the root of the length; NoRoot(length)."""
        if not self.has_root(length):
            raise NoRoot(length)
        # The length-th power is one, so the rest of the power by the length does as well.
        return power_rest(self.base, (self.prime - 1) // length * (power % length), self.prime)

    def shared_by(self, worth, number):
        """The worth number times which is this one; NoShare(number)."""
        # Even nought isn't shared then: every worth would do.
        if number % self.prime == 0:
            raise NoShare(number)
        return worth * inverse(number, self.prime) % self.prime
