"""Points [17] and [1] (d)."""

import unittest

from asking import Asking
from turnsums.errors import BadGround, NoRoot, NotCoprime, TooSmall
from turnsums.wholes import primes_for, reach, whole_product
from turnsums.words import PRIMES

GREAT = 10 ** 9
ALL = list(PRIMES)


def sums(one, other):
    told = [0] * (len(one) + len(other) - 1)
    for i, number in enumerate(one):
        for j, by in enumerate(other):
            told[i + j] += number * by
    return told


def row(n, seed):
    """Numbers of both signs, nought among them."""
    return [(-1) ** (j + seed) * ((j * j + 3 * j * seed) % 11) for j in range(n)]


class Reach(Asking, unittest.TestCase):
    def test_as_told(self):
        told = (
            ([1], [1], 1), ([0], [0], 0), ([0, 0], [5, 9], 0), ([1, 2, 3], [4, 5], 30), ([4, 5], [1, 2, 3], 30),
            ([-7, 2], [3], 21), ([-7, 2], [3, -4, 1], 56), ([7, -2], [-4], 28), ([-1], [-1], 1),
            ([GREAT] * 60, [-GREAT] * 60, 60 * GREAT * GREAT),
        )
        for one, other, wanted in told:
            self.assert_same(reach(one, other), wanted)
            self.assert_same(reach(tuple(other), tuple(one)), wanted)


class Products(Asking, unittest.TestCase):
    def test_by_several_lists(self):
        told = (
            ([1, 2, 3], [4, 5], [97]),
            ([1, 2, 3], [4, 5], (97, 193)),
            ([1, -2, 3], [-4, 5], [193, 97]),
            ([5], [-6], [61]),
            ([5], [-6], [2, 3, 5, 7]),
            ([-9, 8], [7, -6], [257]),
            (row(12, 1), row(9, 2), [2521, 577]),
            (row(30, 1), row(30, 4), [577, 2521, 421]),
            (row(60, 2), row(60, 3), [241, 337, 421]),
            ([0, 0, 0], [0], [97]),
            ([0], [0], [2]),
        )
        for one, other, primes in told:
            wanted = sums(one, other)
            self.assert_same(whole_product(one, other, primes), wanted)
            self.assert_same(whole_product(tuple(one), tuple(other), tuple(primes)), wanted)
            self.assert_same(whole_product(other, one, list(primes)), wanted)

    def test_great_numbers(self):
        for one, other in (
            ([GREAT], [GREAT]), ([-GREAT], [GREAT]), ([GREAT, -GREAT, GREAT - 1], [-GREAT, 999999937]),
            ([GREAT] * 48, [GREAT] * 48), ([-GREAT] * 48, [GREAT] * 48), ([GREAT - 7 * j for j in range(40)], [-1, GREAT]),
            ([(-1) ** j * (GREAT - j) for j in range(45)], [(-1) ** (j // 2) * (GREAT - 3 * j) for j in range(45)]),
        ):
            for primes in (ALL, ALL[::-1], primes_for(one, other)):
                self.assert_same(whole_product(one, other, primes), sums(one, other))

    def test_either_end_of_the_reach(self):
        # 97 is just above twice 48.
        for one, other in (([48], [1]), ([-48], [1]), ([6], [8]), ([-6], [8]), ([4, 4, 4], [4, 4, 4]),
                           ([4, 4, 4], [-4, -4, -4])):
            self.assertEqual(reach(one, other), 48)
            self.assert_same(whole_product(one, other, [97]), sums(one, other))

    def test_bad_ground(self):
        bad = (96, 0, 1, -97, 10007, 4, None, True, "97", [97], (97,))
        for thing in bad:
            self.assert_refused(BadGround, thing, whole_product, [1], [1], [97, thing, 97])
            self.assert_refused(BadGround, thing, whole_product, [1], [1], (thing, 6))
            # Ahead of one that stands there twice, and of too small ones, and of a root.
            self.assert_refused(BadGround, thing, whole_product, [GREAT] * 3, [1], [2, 2, thing])
        self.assert_refused(BadGround, 9, whole_product, [1], [1], [97, 9, 6])

    def test_not_coprime(self):
        self.assert_refused(NotCoprime, 1, whole_product, [1], [1], [97, 97])
        self.assert_refused(NotCoprime, 2, whole_product, [1], [1], [97, 193, 97, 193])
        self.assert_refused(NotCoprime, 3, whole_product, [1], [1], (97, 193, 241, 241, 97))
        # Ahead of too small ones and of a root.
        self.assert_refused(NotCoprime, 1, whole_product, [GREAT], [GREAT], [97, 97])
        self.assert_refused(NotCoprime, 2, whole_product, [1] * 60, [1] * 60, [2, 3, 3])

    def test_too_small(self):
        self.assert_refused(TooSmall, 49, whole_product, [7], [7], [97])
        self.assert_refused(TooSmall, 49, whole_product, [-7], [7], [97])
        self.assert_refused(TooSmall, 3, whole_product, [3], [-1], [2, 3])
        self.assert_refused(TooSmall, 1, whole_product, [1], [1], [2])
        self.assert_refused(TooSmall, GREAT * GREAT, whole_product, [GREAT], [GREAT], [97, 193])
        # Just twice the reach is too small, one less isn't.
        self.assert_refused(TooSmall, 3 * 5 * 7, whole_product, [3 * 5], [7], [2, 3, 5, 7])
        self.assert_same(whole_product([104], [-1], [2, 3, 5, 7]), [-104])
        # Ahead of a root: 2 has one of length 1 alone.
        self.assert_refused(TooSmall, 2, whole_product, [1, 1], [1, 1], [2])
        self.assert_refused(TooSmall, 60, whole_product, [1] * 60, [1] * 60, [5, 7, 3])

    def test_no_root(self):
        self.assert_refused(NoRoot, 119, whole_product, [1] * 60, [1] * 60, [97, 193])
        self.assert_refused(NoRoot, 119, whole_product, [1] * 60, [1] * 60, [193, 97])
        self.assert_refused(NoRoot, 3, whole_product, [1, 1], [1, 1], [97, 3])
        self.assert_refused(NoRoot, 2, whole_product, (1, 1), (1,), (7, 2))


class PrimesFor(Asking, unittest.TestCase):
    def test_as_many_as_needed(self):
        told = (
            ([1], [1], [97]), ([48], [1], [97]), ([-48], [1], [97]), ([49], [1], [97, 193]),
            ([9360], [1], [97, 193]), ([9361], [1], [97, 193, 241]),
            ([0], [0], [97]), ([0] * 60, [0] * 60, [193]), ([0] * 20, [5], [97]), ([5], [0, 0, 0], [97]),
            # 97 has no root from 97 to 240.
            ([1] * 48, [1] * 49, [97]), ([1] * 49, [1] * 49, [193]), ([2] * 60, [-2] * 60, [193, 241]),
            ([1] * 37, [1] * 60, [97]), ([1] * 38, [1] * 60, [193]),
            ([GREAT], [GREAT], ALL), ([GREAT] * 48, [GREAT] * 48, ALL),
        )
        for one, other, wanted in told:
            self.assert_same(primes_for(one, other), wanted)
            self.assert_same(primes_for(tuple(other), tuple(one)), wanted)

    def test_enough_and_not_one_more(self):
        for n in (1, 5, 40, 50, 60):
            for great in (0, 1, 7, 1000, 10 ** 6):
                one, other = [great] * n, [-great] * n
                told = primes_for(one, other)
                free = [prime for prime in PRIMES
                        if any((prime - 1) % length == 0 for length in range(2 * n - 1, 241))]
                self.assertEqual(told, free[:len(told)])
                self.assertGreaterEqual(len(told), 1)
                self.assert_same(whole_product(one, other, told), sums(one, other))
                if len(told) > 1:
                    self.assert_refused(TooSmall, reach(one, other), whole_product, one, other, told[:-1])

    def test_too_few(self):
        # Without 97 all together are some 2.4 * 10 ** 18.
        product = 1
        for prime in PRIMES[1:]:
            product *= prime
        one = [0] * 59 + [GREAT]
        self.assertLess(product, 2 * 60 * GREAT * GREAT)
        self.assert_refused(TooSmall, 60 * GREAT * GREAT, primes_for, one, one)
        self.assert_refused(TooSmall, 60 * GREAT * GREAT, primes_for, [-GREAT] * 60, tuple(one))
        most = product // 2 // 60 // 10 ** 8
        self.assert_same(primes_for([most] + [0] * 59, [10 ** 8] * 60), ALL[1:])
        self.assert_refused(TooSmall, (most + 1) * 60 * 10 ** 8, primes_for, [most + 1] + [0] * 59, [10 ** 8] * 60)


class Calls(Asking, unittest.TestCase):
    def test_by_name(self):
        self.assertEqual(reach(other=[4, 5], one=[1, 2, 3]), 30)
        self.assertEqual(whole_product(primes=[97], other=[4, 5], one=[1, -2, 3]), [4, -3, 2, 15])
        self.assertEqual(primes_for(other=[4, 5], one=[1, 2, 3]), [97])

    def test_what_is_handed_in_stays(self):
        one, other, primes = [1, -2, 3], [4, 5], [97, 193]
        for _ in range(2):
            reach(one, other)
            whole_product(one, other, primes)
            primes_for(one, other)
            self.assertEqual((one, other, primes), ([1, -2, 3], [4, 5], [97, 193]))
        self.assert_own(whole_product, one, other, primes)
        self.assert_own(primes_for, one, other)


if __name__ == "__main__":
    unittest.main()
