"""Point [4], with what [2] and [3] say of it."""

import itertools
import math
import unittest

from asking import OTHER_THINGS, Asking
from turnsums.errors import NoInverse, NotCoprime
from turnsums.numbers import (
    are_coprime, divisors, factors, generator, inverse, is_prime, joined, totient,
)

GREATEST_PRIME = 999983


def plainly_prime(number):
    return number > 1 and all(number % divisor for divisor in range(2, number))


class Primes(Asking, unittest.TestCase):
    def test_small_numbers(self):
        for number in range(-30, 400):
            self.assertIs(is_prime(number), plainly_prime(number), number)

    def test_great_numbers(self):
        for number in (7919, 65537, 104729, 611953, 999979, GREATEST_PRIME):
            self.assertIs(is_prime(number), True, number)
        for number in range(GREATEST_PRIME + 1, 10 ** 6 + 1):
            self.assertIs(is_prime(number), False, number)
        for number in (997 ** 2, 991 * 997, 2 * 499979, 31 ** 4, 2 ** 19, -7, -GREATEST_PRIME):
            self.assertIs(is_prime(number), False, number)

    def test_other_things(self):
        for thing in OTHER_THINGS:
            self.assertIs(is_prime(thing), False, thing)

    def test_by_name(self):
        self.assertIs(is_prime(thing=13), True)
        self.assertIs(is_prime(thing=[13]), False)


class Divisors(Asking, unittest.TestCase):
    def test_factors_of_small_numbers(self):
        for number in range(1, 700):
            told = factors(number)
            self.assertIs(type(told), list)
            self.assertEqual(told, sorted(told))
            self.assertTrue(all(plainly_prime(prime) for prime in told), number)
            self.assertEqual(math.prod(told), number)

    def test_factors_as_told(self):
        for number, told in (
            (1, []), (2, [2]), (4, [2, 2]), (12, [2, 2, 3]), (49, [7, 7]), (GREATEST_PRIME, [GREATEST_PRIME]),
            (10 ** 6, [2] * 6 + [5] * 6), (997 ** 2, [997, 997]), (720720, [2, 2, 2, 2, 3, 3, 5, 7, 11, 13]),
            (999958, [2, 499979]), (2 ** 19, [2] * 19),
        ):
            self.assert_same(factors(number), told)

    def test_divisors_of_small_numbers(self):
        for number in range(1, 500):
            plain = [divisor for divisor in range(1, number + 1) if number % divisor == 0]
            self.assert_same(divisors(number), plain)

    def test_divisors_of_great_numbers(self):
        for number in (GREATEST_PRIME, 10 ** 6, 720720, 997 ** 2, 999 * 1000, 999 * 1001, 2 ** 19):
            plain = [divisor for divisor in range(1, number + 1) if number % divisor == 0]
            self.assert_same(divisors(number), plain)

    def test_told_lists_are_the_askers_own(self):
        self.assert_own(factors, 360)
        self.assert_own(divisors, 360)
        factors(1).append(5)
        divisors(1).append(5)
        self.assertEqual(factors(1), [])
        self.assertEqual(divisors(1), [1])

    def test_by_name(self):
        self.assertEqual(factors(number=18), [2, 3, 3])
        self.assertEqual(divisors(number=18), [1, 2, 3, 6, 9, 18])


class Coprimes(Asking, unittest.TestCase):
    def test_small_numbers_either_way_about(self):
        for one in range(1, 60):
            for other in range(1, 60):
                self.assertIs(are_coprime(one, other), math.gcd(one, other) == 1, (one, other))

    def test_edges(self):
        for number in (1, 2, 9, GREATEST_PRIME, 10 ** 6):
            self.assertIs(are_coprime(1, number), True)
            self.assertIs(are_coprime(number, 1), True)
            self.assertIs(are_coprime(number, number), number == 1)
        self.assertIs(are_coprime(10 ** 6, GREATEST_PRIME), True)
        self.assertIs(are_coprime(997 * 991, 997 * 2), False)
        self.assertIs(are_coprime(2, 10 ** 6), False)

    def test_by_name(self):
        self.assertIs(are_coprime(other=4, one=9), True)
        self.assertIs(are_coprime(one=4, other=6), False)


class Inverses(Asking, unittest.TestCase):
    def test_small_numbers(self):
        for by in range(2, 40):
            for number in range(0, 3 * by + 2):
                plain = [found for found in range(by) if number * found % by == 1]
                if plain:
                    self.assert_same(inverse(number, by), plain[0])
                else:
                    self.assert_refused(NoInverse, number, inverse, number, by)

    def test_great_numbers(self):
        for number, by in ((2, GREATEST_PRIME), (999999, 10 ** 6), (10 ** 6, GREATEST_PRIME), (10 ** 6, 7), (1, 2)):
            told = inverse(number, by)
            self.assertTrue(0 < told < by)
            self.assertEqual(number * told % by, 1)

    def test_refused_with_the_number_as_it_was(self):
        self.assert_refused(NoInverse, 0, inverse, 0, 7)
        self.assert_refused(NoInverse, 14, inverse, 14, 7)
        self.assert_refused(NoInverse, 10, inverse, 10, 4)
        self.assert_refused(NoInverse, 10 ** 6, inverse, 10 ** 6, 10 ** 6)

    def test_by_name(self):
        self.assertEqual(inverse(by=7, number=3), 5)
        self.assert_refused(NoInverse, 4, inverse, by=2, number=4)


class TotientsAndGenerators(Asking, unittest.TestCase):
    def test_totient_by_counting(self):
        for number in range(1, 300):
            plain = len([k for k in range(1, number + 1) if math.gcd(k, number) == 1])
            self.assert_same(totient(number), plain)

    def test_totient_of_great_numbers(self):
        for number in (10 ** 6, 720720, 997 ** 2):
            plain = len([k for k in range(1, number + 1) if math.gcd(k, number) == 1])
            self.assert_same(totient(number), plain)
        self.assert_same(totient(GREATEST_PRIME), GREATEST_PRIME - 1)
        self.assertEqual(totient(number=12), 4)

    def powers(self, number, prime):
        found = []
        worth = 1
        for _ in range(prime - 1):
            worth = worth * number % prime
            found.append(worth)
        return sorted(found)

    def test_generator_is_the_least_one(self):
        for prime in [number for number in range(2, 260) if plainly_prime(number)] + [409, 2521, 9973]:
            told = generator(prime)
            self.assertIs(type(told), int)
            self.assertEqual(self.powers(told, prime), list(range(1, prime)), prime)
            for lesser in range(1, told):
                self.assertNotEqual(self.powers(lesser, prime), list(range(1, prime)), prime)

    def test_generator_as_told(self):
        for prime, told in ((2, 1), (3, 2), (5, 2), (7, 3), (23, 5), (41, 6), (97, 5), (191, 19), (2521, 17)):
            self.assert_same(generator(prime), told)
        self.assertEqual(generator(prime=71), 7)

    def test_generator_of_the_greatest_prime(self):
        told = generator(GREATEST_PRIME)
        self.assertEqual(self.powers(told, GREATEST_PRIME), list(range(1, GREATEST_PRIME)))
        for lesser in range(1, told):
            self.assertTrue(any(pow(lesser, (GREATEST_PRIME - 1) // prime, GREATEST_PRIME) == 1
                                for prime in factors(GREATEST_PRIME - 1)))


class Joined(Asking, unittest.TestCase):
    def test_all_rests_of_small_bys(self):
        for bys in ([1], [5], [3, 4], [4, 3], [2, 1, 9], [1, 1], [5, 6, 7], [1, 8, 1, 3]):
            for number in range(math.prod(bys)):
                rests = [number % by for by in bys]
                self.assert_same(joined(rests, bys), number)
                self.assert_same(joined(tuple(rests), tuple(bys)), number)

    def test_ten_of_them(self):
        bys = [2, 3, 5, 7, 11, 13, 17, 19, 23, 29]
        for number in (0, 1, 123456789, math.prod(bys) - 1):
            self.assert_same(joined([number % by for by in bys], bys), number)
        bys = [999983, 999979, 999961, 999959, 999953, 999931, 999917, 999907, 999883, 999863]
        for number in (10 ** 59, math.prod(bys) - 1, 17):
            self.assert_same(joined([number % by for by in bys], bys), number)

    def test_what_is_handed_in_stays(self):
        rests, bys = [1, 0, 3], [2, 1, 5]
        self.assertEqual(joined(rests, bys), 3)
        self.assertEqual((rests, bys), ([1, 0, 3], [2, 1, 5]))

    def test_not_coprime_at_the_first_such_place(self):
        for bys in itertools.product(range(1, 9), repeat=3):
            places = [place for place in range(3) if any(math.gcd(bys[place], ahead) > 1 for ahead in bys[:place])]
            if places:
                self.assert_refused(NotCoprime, places[0], joined, [0, 0, 0], list(bys))
            else:
                self.assertEqual(joined([0, 0, 0], list(bys)), 0)

    def test_not_coprime_with_any_one_ahead(self):
        self.assert_refused(NotCoprime, 3, joined, [1, 1, 1, 1, 1], [6, 5, 7, 9, 10])
        self.assert_refused(NotCoprime, 1, joined, (0, 0), (4, 4))
        self.assert_refused(NotCoprime, 9, joined, [0] * 10, [2, 3, 5, 7, 11, 13, 17, 19, 23, 23])

    def test_by_name(self):
        self.assertEqual(joined(bys=[3, 5], rests=[2, 3]), 8)
        self.assertEqual(joined(rests=(2, 3), bys=[3, 5]), 8)
        self.assert_refused(NotCoprime, 1, joined, bys=[3, 6], rests=[0, 0])


if __name__ == "__main__":
    unittest.main()
