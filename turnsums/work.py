"""A ground at work: it counts what is made on it."""


class Work:
    """Hands all to a ground; keeps how many sums and products were made, and the turnings."""

    def __init__(self, ground):
        self.ground = ground
        self.sums = 0
        self.products = 0
        # Triples (PLAN, row, turning), in the order in which they were made.
        self.ways = []

    def worth_of(self, number):
        """The worth that a whole number is."""
        return self.ground.worth_of(number)

    def root_at(self, length, power):
        """A power of the root of the length; NoRoot(length)."""
        return self.ground.root_at(length, power)

    def sum_of(self, one, other):
        """One and the other, a sum more."""
        self.sums += 1
        return self.ground.sum_of(one, other)

    def gap_of(self, one, other):
        """One less the other, which counts as a sum."""
        self.sums += 1
        return self.ground.gap_of(one, other)

    def product_of(self, one, other):
        """One times the other, a product more."""
        self.products += 1
        return self.ground.product_of(one, other)

    def shared_by(self, worth, number):
        """The worth number times which is this one, which counts as a product; NoShare(number)."""
        self.products += 1
        return self.ground.shared_by(worth, number)
