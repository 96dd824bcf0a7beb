"""Point [6], and what both grounds have."""

import math
import unittest

from asking import OTHER_THINGS, Asking
from turnsums.errors import BadGround, NoRoot, NoShare
from turnsums.rests import Rests
from turnsums.roots import Roots, wheel

ORDERS = range(1, 31)


def counted_coprimes(number):
    return len([k for k in range(1, number + 1) if math.gcd(k, number) == 1])


def product(one, other):
    told = [0] * (len(one) + len(other) - 1)
    for at in range(len(one)):
        for place in range(len(other)):
            told[at + place] += one[at] * other[place]
    return told


def rest_by_wheel(row, order):
    """By putting, for the highest power, what the wheel makes of it, again and again."""
    rim = wheel(order)
    degree = len(rim) - 1
    row = list(row)
    for power in range(len(row) - 1, degree - 1, -1):
        top = row[power]
        for at in range(degree + 1):
            row[power - degree + at] -= top * rim[at]
    assert not any(row[degree:])
    return tuple((row + [0] * degree)[:degree])


def great_worth(ground, start):
    size = len(ground.worth_of(0))
    return tuple((-1) ** (at + start) * (10 ** 12 - 37 * at - start) for at in range(size))


class Wheels(Asking, unittest.TestCase):
    def test_as_told(self):
        for order, told in (
            (1, [-1, 1]), (2, [1, 1]), (3, [1, 1, 1]), (4, [1, 0, 1]), (5, [1] * 5), (6, [1, -1, 1]),
            (8, [1, 0, 0, 0, 1]), (12, [1, 0, -1, 0, 1]), (30, [1, 1, 0, -1, -1, -1, 0, 1, 1]), (29, [1] * 29),
        ):
            self.assert_same(wheel(order), told)

    def test_products_over_all_divisors(self):
        for order in ORDERS:
            told = [1]
            for divisor in range(1, order + 1):
                if order % divisor == 0:
                    told = product(told, wheel(divisor))
            self.assertEqual(told, [-1] + [0] * (order - 1) + [1], order)

    def test_degree(self):
        for order in ORDERS:
            told = wheel(order)
            self.assertIs(type(told), list)
            self.assertEqual(len(told), counted_coprimes(order) + 1)
            self.assertEqual(told[-1], 1)

    def test_told_lists_are_the_askers_own(self):
        for order in (1, 4, 12, 30):
            self.assert_own(wheel, order)
        divisor = wheel(2)
        divisor[0] = 9
        self.assertEqual(wheel(order=4), [1, 0, 1])
        self.assertEqual(Roots(2).product_of((3,), (5,)), (15,))


class Making(Asking, unittest.TestCase):
    def test_orders(self):
        for order in ORDERS:
            self.assert_same(Roots(order).order, order)
        for order in (0, -1, -12, 31, 32, 97, 10 ** 4, 10 ** 30, -10 ** 30):
            self.assert_refused(BadGround, order, Roots, order)

    def test_other_things(self):
        for thing in (*OTHER_THINGS, "12", [12], (12,)):
            self.assert_refused(BadGround, thing, Roots, thing)
        thing = [12]
        with self.assertRaises(BadGround) as caught:
            Roots(thing)
        self.assertIs(caught.exception.what, thing)

    def test_by_name(self):
        self.assertEqual(Roots(order=12).order, 12)
        self.assert_refused(BadGround, 31, Roots, order=31)


class Worths(Asking, unittest.TestCase):
    def test_is_worth(self):
        for order in ORDERS:
            ground = Roots(order)
            size = counted_coprimes(order)
            for thing in ((0,) * size, (10 ** 40,) * size, (-5,) * size):
                self.assertIs(ground.is_worth(thing), True, (order, thing))
                for wrong in (list(thing), thing + (0,), thing[:-1], thing[:-1] + (True,), (False,) + thing[1:],
                              thing[:-1] + (None,), thing[:-1] + ("1",), thing[:-1] + ((1,),), (thing,) * (size + 1)):
                    self.assertIs(ground.is_worth(wrong), False, (order, wrong))
            for thing in (0, 1, True, False, None, "", "a", [], (), [0] * size, ([0] * size,)):
                self.assertIs(ground.is_worth(thing), False, (order, thing))
        self.assertIs(Roots(4).is_worth(thing=(1, 2)), True)

    def test_worth_of(self):
        for order in ORDERS:
            ground = Roots(order)
            for number in (0, 1, -1, 10 ** 12, -10 ** 40):
                self.assert_same(ground.worth_of(number), (number,) + (0,) * (counted_coprimes(order) - 1))
        self.assert_same(Roots(3).worth_of(number=-4), (-4, 0))

    def test_sums_and_gaps(self):
        for order in ORDERS:
            ground = Roots(order)
            one, other = great_worth(ground, 0), great_worth(ground, 1)
            self.assert_same(ground.sum_of(one, other), tuple(a + b for a, b in zip(one, other)))
            self.assert_same(ground.gap_of(one, other), tuple(a - b for a, b in zip(one, other)))
            self.assert_same(ground.sum_of(one, ground.worth_of(0)), one)
            self.assert_same(ground.gap_of(one, one), ground.worth_of(0))

    def test_products_by_dividing(self):
        for order in ORDERS:
            ground = Roots(order)
            worths = [ground.worth_of(0), ground.worth_of(1), great_worth(ground, 0), great_worth(ground, 1)]
            worths.append(tuple(range(1, len(worths[0]) + 1)))
            worths.append((0,) * (len(worths[0]) - 1) + (-3,))
            for one in worths:
                for other in worths:
                    wanted = rest_by_wheel(product(one, other), order)
                    self.assert_same(ground.product_of(one, other), wanted)

    def test_products_with_nought_and_one(self):
        for order in ORDERS:
            ground = Roots(order)
            worth = great_worth(ground, 0)
            self.assert_same(ground.product_of(worth, ground.worth_of(1)), worth)
            self.assert_same(ground.product_of(ground.worth_of(1), worth), worth)
            self.assert_same(ground.product_of(worth, ground.worth_of(0)), ground.worth_of(0))

    def test_products_as_told(self):
        self.assert_same(Roots(4).product_of((1, 2), (3, 4)), (-5, 10))
        self.assert_same(Roots(3).product_of((0, 1), (0, 1)), (-1, -1))
        self.assert_same(Roots(6).product_of((0, 1), (0, 1)), (-1, 1))
        self.assert_same(Roots(1).product_of((-4,), (5,)), (-20,))

    def test_by_name(self):
        ground = Roots(4)
        self.assertEqual(ground.sum_of(other=(3, 4), one=(1, 2)), (4, 6))
        self.assertEqual(ground.gap_of(other=(3, 4), one=(1, 2)), (-2, -2))
        self.assertEqual(ground.product_of(other=(0, 1), one=(1, 2)), (-2, 1))

    def test_shared_by(self):
        for order in ORDERS:
            ground = Roots(order)
            size = counted_coprimes(order)
            worth = great_worth(ground, 0)
            for number in (1, 2, 7, 60):
                scaled = tuple(number * part for part in worth)
                self.assert_same(ground.shared_by(scaled, number), worth)
                self.assert_same(ground.shared_by((0,) * size, number), (0,) * size)
                if number == 1:
                    continue
                for place in range(size):
                    for more in (1, -1):
                        wrong = scaled[:place] + (scaled[place] + more,) + scaled[place + 1:]
                        self.assert_refused(NoShare, number, ground.shared_by, wrong, number)

    def test_shared_by_by_name(self):
        self.assert_same(Roots(4).shared_by(number=3, worth=(-6, 9)), (-2, 3))
        self.assert_refused(NoShare, 3, Roots(4).shared_by, number=3, worth=(-5, 9))


class RootsOfRoots(Asking, unittest.TestCase):
    def test_has_root_of_just_the_divisors(self):
        for order in ORDERS:
            for length in range(1, 70):
                self.assertIs(Roots(order).has_root(length), order % length == 0, (order, length))
        self.assertIs(Roots(12).has_root(length=6), True)

    def test_no_root_below_the_length_one(self):
        for length in (0, -1, -4, -12):
            self.assertIs(Roots(12).has_root(length), False)
            self.assert_refused(NoRoot, length, Roots(12).root_at, length, 1)

    def test_root_is_that_power_of_x(self):
        for order in ORDERS:
            ground = Roots(order)
            for length in range(1, order + 1):
                if order % length:
                    continue
                for power in range(-length, 2 * length + 1):
                    raised = order // length * (power % length)
                    wanted = rest_by_wheel([0] * raised + [1], order)
                    self.assert_same(ground.root_at(length, power), wanted)

    def test_powers_come_round_at_the_length(self):
        for order in (1, 2, 9, 12, 29, 30):
            ground = Roots(order)
            for length in range(1, order + 1):
                if order % length:
                    continue
                powers = [ground.root_at(length, power) for power in range(length)]
                self.assertEqual(len(set(powers)), length)
                self.assertEqual(powers[0], ground.worth_of(1))
                worth = ground.worth_of(1)
                for power in range(2 * length):
                    self.assertEqual(worth, powers[power % length])
                    self.assertEqual(ground.root_at(length, power - 10 ** 30 * length), worth)
                    self.assertEqual(ground.root_at(length, power + 10 ** 30 * length), worth)
                    worth = ground.product_of(worth, ground.root_at(length, 1))

    def test_no_root(self):
        for order in ORDERS:
            for length in range(1, 62):
                if order % length:
                    for power in (0, 1, -1, length):
                        self.assert_refused(NoRoot, length, Roots(order).root_at, length, power)

    def test_by_name(self):
        self.assert_same(Roots(4).root_at(power=-1, length=4), (0, -1))
        self.assert_refused(NoRoot, 3, Roots(4).root_at, power=0, length=3)


class Likeness(unittest.TestCase):
    def test_alike(self):
        for one in (1, 7, 12):
            for other in (1, 7, 12):
                self.assertIs(Roots(one) == Roots(other), one == other)
                self.assertIs(Roots(one) != Roots(other), one != other)

    def test_with_other_things(self):
        for thing in (*OTHER_THINGS, 7, "roots 7", Rests(7), object()):
            self.assertIs(Roots(7) == thing, False)
            self.assertIs(thing == Roots(7), False)
            self.assertIs(Roots(7) != thing, True)
            self.assertIs(thing != Roots(7), True)

    def test_texts(self):
        for order in ORDERS:
            self.assertEqual(str(Roots(order)), f"roots {order}")
            self.assertEqual(repr(Roots(order)), f"roots {order}")


if __name__ == "__main__":
    unittest.main()
