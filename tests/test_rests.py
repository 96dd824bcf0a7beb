"""Point [5], and what both grounds have."""

import unittest

from asking import OTHER_THINGS, Asking
from turnsums.errors import BadGround, NoRoot, NoShare
from turnsums.numbers import generator, is_prime
from turnsums.rests import Rests
from turnsums.roots import Roots


class Making(Asking, unittest.TestCase):
    def test_every_prime_and_nothing_else_to_the_bound(self):
        for number in range(-5, 600):
            if is_prime(number):
                self.assert_same(Rests(number).prime, number)
            else:
                self.assert_refused(BadGround, number, Rests, number)

    def test_about_the_bound(self):
        self.assertEqual(Rests(9973).prime, 9973)
        for number in (9999, 10000, 10001, 10007, 10009, 65537, 999983, 10 ** 30, 2 ** 127 - 1, -7, -97):
            self.assert_refused(BadGround, number, Rests, number)

    def test_other_things(self):
        for thing in OTHER_THINGS:
            self.assert_refused(BadGround, thing, Rests, thing)
        for thing in ([97], (97,), "97"):
            with self.assertRaises(BadGround) as caught:
                Rests(thing)
            self.assertIs(caught.exception.what, thing)

    def test_by_name(self):
        self.assertEqual(Rests(prime=13).prime, 13)
        self.assert_refused(BadGround, 12, Rests, prime=12)


class Worths(Asking, unittest.TestCase):
    def test_is_worth(self):
        for prime in (2, 3, 97):
            ground = Rests(prime)
            for number in range(-3, prime + 3):
                self.assertIs(ground.is_worth(number), 0 <= number < prime)
            self.assertIs(ground.is_worth(-prime), False)
            self.assertIs(ground.is_worth(10 ** 20), False)
            for thing in (*OTHER_THINGS, (0,), [0], "0", "1", (1, 0)):
                self.assertIs(ground.is_worth(thing), False, thing)
        self.assertIs(Rests(7).is_worth(thing=6), True)

    def test_worth_of(self):
        for prime in (2, 7, 9973):
            ground = Rests(prime)
            for number in (0, 1, -1, prime - 1, prime, prime + 1, -prime, -prime - 1, 10 ** 40 + 3, -10 ** 40 - 3):
                told = ground.worth_of(number)
                self.assertIs(type(told), int)
                self.assertTrue(0 <= told < prime)
                self.assertEqual((number - told) % prime, 0)
        self.assert_same(Rests(7).worth_of(-1), 6)
        self.assert_same(Rests(7).worth_of(number=15), 1)

    def test_sums_gaps_and_products(self):
        for prime in (2, 3, 13):
            ground = Rests(prime)
            for one in range(prime):
                for other in range(prime):
                    self.assert_same(ground.sum_of(one, other), (one + other) % prime)
                    self.assert_same(ground.gap_of(one, other), (one - other) % prime)
                    self.assert_same(ground.product_of(one, other), one * other % prime)

    def test_the_greatest_worths(self):
        ground = Rests(9973)
        self.assert_same(ground.sum_of(9972, 9972), 9971)
        self.assert_same(ground.gap_of(0, 9972), 1)
        self.assert_same(ground.gap_of(9972, 9972), 0)
        self.assert_same(ground.product_of(9972, 9972), 1)

    def test_by_name(self):
        ground = Rests(11)
        self.assertEqual(ground.sum_of(other=9, one=5), 3)
        self.assertEqual(ground.gap_of(other=9, one=5), 7)
        self.assertEqual(ground.product_of(other=9, one=5), 1)

    def test_shared_by(self):
        for prime in (2, 3, 13):
            ground = Rests(prime)
            for worth in range(prime):
                for number in range(1, 3 * prime + 2):
                    if number % prime == 0:
                        self.assert_refused(NoShare, number, ground.shared_by, worth, number)
                    else:
                        told = ground.shared_by(worth, number)
                        self.assertIs(ground.is_worth(told), True)
                        self.assertEqual(number * told % prime, worth)

    def test_shared_by_by_name(self):
        self.assertEqual(Rests(7).shared_by(number=3, worth=2), 3)
        self.assert_refused(NoShare, 14, Rests(7).shared_by, number=14, worth=0)


class RootsOfRests(Asking, unittest.TestCase):
    def test_has_root_of_just_the_divisors(self):
        for prime in (2, 3, 5, 97, 241, 9973):
            ground = Rests(prime)
            for length in range(1, 300):
                self.assertIs(ground.has_root(length), (prime - 1) % length == 0, (prime, length))
        self.assertIs(Rests(9973).has_root(9972), True)
        self.assertIs(Rests(97).has_root(length=97), False)

    def test_no_root_below_the_length_one(self):
        for length in (0, -1, -4, -96):
            self.assertIs(Rests(97).has_root(length), False)
            self.assert_refused(NoRoot, length, Rests(97).root_at, length, 1)

    def test_root_is_that_power_of_the_generator(self):
        for prime in (2, 3, 13, 97):
            ground = Rests(prime)
            for length in range(1, prime):
                if (prime - 1) % length:
                    continue
                root = pow(generator(prime), (prime - 1) // length, prime)
                for power in range(-2 * length - 1, 2 * length + 2):
                    self.assert_same(ground.root_at(length, power), pow(root, power % length, prime))

    def test_powers_come_round_at_the_length(self):
        ground = Rests(241)
        for length in (1, 2, 3, 15, 16, 60, 240):
            powers = [ground.root_at(length, power) for power in range(length)]
            self.assertEqual(len(set(powers)), length)
            self.assertEqual(powers[0], 1)
            self.assertEqual(ground.root_at(length, length), 1)
            for power in range(length):
                self.assertEqual(powers[power] * powers[1 % length] % 241, powers[(power + 1) % length])
                for far in (10 ** 30, -10 ** 30):
                    self.assertEqual(ground.root_at(length, power + far * length), powers[power])
                self.assertEqual(powers[power] * ground.root_at(length, -power) % 241, 1)

    def test_no_root(self):
        for prime in (2, 3, 97):
            ground = Rests(prime)
            for length in range(1, 2 * prime):
                if (prime - 1) % length:
                    for power in (0, 1, -1, length):
                        self.assert_refused(NoRoot, length, ground.root_at, length, power)

    def test_by_name(self):
        self.assertEqual(Rests(7).root_at(power=1, length=3), 2)
        self.assert_refused(NoRoot, 4, Rests(7).root_at, power=0, length=4)


class Likeness(unittest.TestCase):
    def test_alike(self):
        for one in (2, 7, 11):
            for other in (2, 7, 11):
                self.assertIs(Rests(one) == Rests(other), one == other)
                self.assertIs(Rests(one) != Rests(other), one != other)

    def test_with_other_things(self):
        for thing in (*OTHER_THINGS, 7, "rests 7", Roots(7), object()):
            self.assertIs(Rests(7) == thing, False)
            self.assertIs(thing == Rests(7), False)
            self.assertIs(Rests(7) != thing, True)
            self.assertIs(thing != Rests(7), True)

    def test_texts(self):
        for prime in (2, 97, 9973):
            self.assertEqual(str(Rests(prime)), f"rests {prime}")
            self.assertEqual(repr(Rests(prime)), f"rests {prime}")

    def test_asking_changes_nothing(self):
        ground = Rests(13)
        first = [ground.root_at(6, 5), ground.shared_by(3, 5), ground.worth_of(-4)]
        with self.assertRaises(NoRoot):
            ground.root_at(5, 1)
        with self.assertRaises(NoShare):
            ground.shared_by(1, 13)
        self.assertEqual([ground.root_at(6, 5), ground.shared_by(3, 5), ground.worth_of(-4)], first)
        self.assertEqual(ground, Rests(13))


if __name__ == "__main__":
    unittest.main()
