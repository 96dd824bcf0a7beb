"""The ground of exact roots: whole numbers times the powers of x, by a wheel."""

from turnsums.errors import BadGround, NoRoot, NoShare
from turnsums.numbers import divisors, is_whole

MOST_ORDER = 30


def divided(row, by):
    """The quotient and the rest of two polynomials, lists from the power 0 on, by's last number 1."""
    degree = len(by) - 1
    rest = list(row)
    falling = []
    while len(rest) > degree:
        top = rest.pop()
        falling.append(top)
        start = len(rest) - degree
        for at in range(degree):
            rest[start + at] -= top * by[at]
    # A rest has as many numbers as a worth, also where the polynomial was shorter.
    return falling[::-1], rest + [0] * (degree - len(rest))


def multiplied(one, other):
    """The product of two polynomials."""
    told = [0] * (len(one) + len(other) - 1)
    for at, part in enumerate(one):
        # Roots are mostly noughts, and long rows have many products with them.
        if part != 0:
            for place, worth in enumerate(other):
                told[at + place] += part * worth
    return told


def wheel(order):
    """The polynomial that, with those of all lesser divisors, has the product x to the order, less 1."""
    told = [-1] + [0] * (order - 1) + [1]
    for divisor in divisors(order)[:-1]:
        told = divided(told, wheel(divisor))[0]
    return told


class Roots:
    """Worths are tuples of whole numbers, rests of polynomials by the order's wheel; BadGround(order)."""

    def __init__(self, order):
        if not is_whole(order) or order < 1 or order > MOST_ORDER:
            raise BadGround(order)
        self.order = order
        # Kept, since each product is divided by it.
        self.rim = tuple(wheel(order))

    def __eq__(self, other):
        return isinstance(other, Roots) and self.order == other.order

    def __str__(self):
        return f"roots {self.order}"

    def __repr__(self):
        return f"roots {self.order}"

    def has_root(self, length):
        """Whether there is a root of the length."""
        return length > 0 and self.order % length == 0

    def is_worth(self, thing):
        """Whether a thing is a tuple of as many whole numbers as the wheel's degree."""
        if not isinstance(thing, tuple) or len(thing) != len(self.rim) - 1:
            return False
        return all([is_whole(part) for part in thing])

    def worth_of(self, number):
        """The worth that a whole number is."""
        return tuple(divided([number], self.rim)[1])

    def sum_of(self, one, other):
        """One and the other."""
        return tuple([part + beside for part, beside in zip(one, other)])

    def gap_of(self, one, other):
        """One less the other."""
        return tuple([part - beside for part, beside in zip(one, other)])

    def product_of(self, one, other):
        """One times the other."""
        return tuple(divided(multiplied(one, other), self.rim)[1])

    def root_at(self, length, power):
        """A power of the root of the length; NoRoot(length)."""
        if not self.has_root(length):
            raise NoRoot(length)
        # The length-th power is one, so the rest of the power by the length does as well.
        raised = self.order // length * (power % length)
        return tuple(divided([0] * raised + [1], self.rim)[1])

    def shared_by(self, worth, number):
        """The worth number times which is this one; NoShare(number)."""
        if any([part % number != 0 for part in worth]):
            raise NoShare(number)
        return tuple([part // number for part in worth])
