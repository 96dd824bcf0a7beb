"""Points [19] and [1] (f)."""

import unittest

from asking import OTHER_THINGS, Asking
from samples import FORMS, NESTED, length_in, lengths_of, parts, plain, powers, row_on, short, split, stretch, sums_on
from turnsums.errors import BadLength, NoRoot, NotEven
from turnsums.halves import even_from, half_back, half_of, half_turning, is_even
from turnsums.numbers import is_prime
from turnsums.rests import Rests
from turnsums.roots import Roots

PRIMES = (3, 5, 7, 13, 17, 31, 61, 97, 241, 2521, 9973)


def deep(part, levels, kind):
    for _ in range(levels):
        part = kind([part])
    return part


def mirrored(half):
    """The even row, by its own words."""
    h = len(half) - 1
    return [half[j if j <= h else 2 * h - j] for j in range(2 * h)]


class IsEven(Asking, unittest.TestCase):
    def test_even(self):
        for thing in (
            [1, 2], ["a", None], [True, 1], [[], ()], [1, 2, 3, 2], [0, 0, 0, 0], [5, True, 0, True],
            [1, None, "x", None], [(1, 2), (3,), 7, (3,)], [1, [2, (3, "a")], 3, [2, (3, "a")]],
            [1, 2, 3, 4, 3, 2], [9, "", 1, "x", 1, ""], [1, [], 2, []], [1, (), 2, ()],
            [1, -2, 3, -2], [0, deep(1, 10, list), 1, deep(1, 10, list)], [0, deep("a", 10, tuple), 1, deep("a", 10, tuple)],
            [1] * 60,
        ):
            self.assertIs(is_even(thing), True, thing)

    def test_not_even(self):
        for thing in (
            [], [1], [1, 2, 3], [1, 1, 1], [1] * 59, [1, 2, 3, 4], [1, 2, 3, 4, 5, 2], [1, 2, 3, 4, 3, 5],
            (1, 2), (1, 2, 3, 2), (), [0, True, 0, 1], [0, 1, 0, True], [0, False, 0, 0], [0, None, 0, 0], [0, None, 0, False],
            [0, "1", 0, 1], [0, "", 0, None], [0, [1], 0, (1,)], [0, (1,), 0, [1]], [0, [True], 0, [1]],
            [0, (0,), 0, (False,)], [0, [1, [2]], 0, [1, (2,)]], [0, [1], 0, [1, 1]], [0, [1, 1], 0, [1]],
            [0, [], 0, ()], [0, 1, 0, [1]], [0, [1], 0, 1], [0, (), 0, None], [0, "", 0, []],
            [0, deep(1, 10, list), 1, deep(True, 10, list)], [0, deep(0, 9, tuple), 1, deep(0, 10, tuple)],
            [0, deep([], 9, list), 1, deep((), 9, list)], "abcb", "", "aa", 4, 0, None, True, False,
        ):
            self.assertIs(is_even(thing), False, thing)
        for thing in OTHER_THINGS:
            self.assertIs(is_even(thing), False, thing)

    def test_the_first_and_the_middle_stand_alone(self):
        self.assertIs(is_even([True, 2, None, 2]), True)
        self.assertIs(is_even([[1], 2, 3, (4,), 3, 2]), True)


class HalfOf(Asking, unittest.TestCase):
    def test_of_even_rows(self):
        for ground in (Rests(97), Rests(2), Roots(1), Roots(12)):
            for h in (1, 2, 3, 7, 30):
                half = row_on(ground, h + 1)
                row = mirrored(half)
                self.assertEqual(len(row), 2 * h)
                self.assert_same(half_of(row), half)
                self.assert_same(half_of(tuple(row)), half)
                self.assert_same(even_from(half), row)
                self.assert_same(even_from(tuple(half)), row)
                self.assert_same(half_of(even_from(half)), half)
                self.assert_same(even_from(half_of(row)), row)
                self.assertIs(is_even(even_from(half)), True)

    def test_as_written_out(self):
        self.assert_same(half_of([1, 2, 3, 4, 3, 2]), [1, 2, 3, 4])
        self.assert_same(half_of([1, 2]), [1, 2])
        self.assert_same(even_from([1, 2, 3, 4]), [1, 2, 3, 4, 3, 2])
        self.assert_same(even_from([1, 2, 3]), [1, 2, 3, 2])
        self.assert_same(even_from([1, 2]), [1, 2])
        self.assert_same(even_from(((1, 2), (3, 4), (5, 6))), [(1, 2), (3, 4), (5, 6), (3, 4)])

    def test_odd_length(self):
        for n in (1, 3, 5, 59):
            self.assert_refused(NotEven, n, half_of, [0] * n)
            self.assert_refused(NotEven, n, half_of, tuple(range(n)))
            self.assert_refused(NotEven, n, half_of, [(j, j) for j in range(n)])

    def test_the_first_place_that_is_not_alike(self):
        self.assert_refused(NotEven, 1, half_of, [1, 2, 3, 4])
        self.assert_refused(NotEven, 1, half_of, [1, 2, 3, 4, 5, 6])
        self.assert_refused(NotEven, 2, half_of, [1, 2, 3, 4, 5, 2])
        self.assert_refused(NotEven, 1, half_of, (1, 2, 3, 4, 3, 5))
        for h in (3, 4, 30):
            for place in range(1, h):
                row = mirrored(list(range(h + 1)))
                row[place] = 90
                self.assert_refused(NotEven, place, half_of, row)
                row = mirrored([(j, 0) for j in range(h + 1)])
                row[2 * h - place] = (0, 90)
                row[h] = (9, 9)
                row[0] = (8, 8)
                self.assert_refused(NotEven, place, half_of, row)
                if place > 1:
                    row[2 * h - 1] = (0, 91)
                    self.assert_refused(NotEven, 1, half_of, row)


class HalfTurning(Asking, unittest.TestCase):
    def test_without_a_plan(self):
        for prime in PRIMES:
            ground = Rests(prime)
            for h in range(1, 60):
                if (prime - 1) % (2 * h) == 0:
                    half = row_on(ground, h + 1)
                    wanted = sums_on(ground, mirrored(half))
                    self.assertEqual(wanted, mirrored(wanted[:h + 1]))
                    self.assert_same(half_turning(ground, half), wanted[:h + 1])
                    self.assert_same(half_turning(ground, tuple(half), plan=None), wanted[:h + 1])
                    self.assert_same(half_back(ground, wanted[:h + 1]), half)
                    self.assert_same(half_back(ground, tuple(wanted[:h + 1]), plan=None), half)

    def test_by_plans(self):
        words = set()
        for plan, _ in FORMS + NESTED:
            h = length_in(plan)
            whole = 1
            for length in lengths_of(plan) + [2 * h]:
                whole = whole * length // max(d for d in range(1, length + 1) if whole % d == length % d == 0)
            primes = [whole * k + 1 for k in range(1, 9973 // whole + 1) if is_prime(whole * k + 1)]
            for prime in [number for number in primes if number <= 9973][:2]:
                ground = Rests(prime)
                half = row_on(ground, h + 1, 4)
                wanted = sums_on(ground, mirrored(half))[:h + 1]
                self.assert_same(half_turning(ground, half, plan=plan), wanted)
                self.assert_same(half_turning(ground, tuple(half), plan=plan), wanted)
                self.assert_same(half_back(ground, wanted, plan=plan), half)
                words.add(plan[0])
        self.assertEqual(words, {"plain", "short", "split", "parts", "powers", "stretch"})

    def test_sixty(self):
        ground = Rests(241)
        half = row_on(ground, 61)
        wanted = sums_on(ground, mirrored(half))[:61]
        for plan in (None, plain(60), parts(plain(5), plain(12)), stretch(60, plain(120))):
            self.assert_same(half_turning(ground, half, plan=plan), wanted)
            self.assert_same(half_back(ground, wanted, plan=plan), half)

    def test_as_written_out(self):
        self.assert_same(half_turning(Rests(5), [3, 4]), [2, 4])
        self.assert_same(half_back(Rests(5), [2, 4]), [3, 4])
        # The row 1, 2, 3, 2: 8, 1 - 3, 1 - 2 + 3 - 2.
        self.assert_same(half_turning(Rests(13), [1, 2, 3]), [8, 11, 0])

    def test_one_turning_of_half_the_length(self):
        class Watched(Rests):
            def __init__(self, prime):
                Rests.__init__(self, prime)
                self.products = 0

            def product_of(self, one, other):
                self.products += 1
                return Rests.product_of(self, one, other)

        ground = Watched(241)
        half_turning(ground, row_on(ground, 61))
        # A plain turning of 60 has 59 * 59, one of 120 would have 119 * 119.
        self.assertLess(ground.products, 59 * 59 + 200)
        ground = Watched(241)
        half_turning(ground, row_on(ground, 61), plan=parts(plain(5), plain(12)))
        self.assertLess(ground.products, 12 * 16 + 5 * 121 + 200)

    def test_half_back_is_not_the_turning_itself(self):
        ground = Rests(97)
        half = row_on(ground, 5)
        self.assertNotEqual(half_back(ground, half), half_turning(ground, half))
        self.assert_same(half_turning(ground, half_back(ground, half)), half)

    def test_refused(self):
        ground = Rests(7)
        row = row_on(ground, 60)
        for asked in (half_turning, half_back):
            # Of 2 * h, ahead of the plan's length, and that ahead of its roots.
            self.assert_refused(NoRoot, 4, asked, ground, row[:3])
            self.assert_refused(NoRoot, 4, asked, ground, row[:3], plan=short(2))
            self.assert_refused(NoRoot, 4, asked, ground, row[:3], plan=plain(5))
            self.assert_refused(NoRoot, 8, asked, ground, tuple(row[:5]), plan=short(3))
            self.assert_refused(NoRoot, 12, asked, ground, row[:7], plan=plain(6))
            self.assert_refused(NoRoot, 2, asked, Rests(2), [1, 1])
            self.assert_refused(NoRoot, 118, asked, ground, row)
            self.assert_refused(BadLength, 3, asked, ground, row[:4], plan=short(2))
            self.assert_refused(BadLength, 3, asked, ground, row[:4], plan=plain(4))
            self.assert_refused(BadLength, 1, asked, ground, row[:2], plan=parts(short(3), short(4)))
            self.assert_refused(BadLength, 3, asked, ground, row[:4], plan=plain(6))
            self.assert_refused(NoRoot, 5, asked, ground, row[:4], plan=stretch(3, plain(5)))
            self.assert_refused(NoRoot, 4, asked, Rests(11), row[:6], plan=powers(5, short(4)))
            self.assert_refused(NoRoot, 7, asked, Rests(13), row[:7], plan=split(short(2), stretch(3, plain(7))))


class Calls(Asking, unittest.TestCase):
    def test_by_name(self):
        self.assertEqual(half_of(row=[1, 2, 3, 2]), [1, 2, 3])
        self.assertEqual(even_from(half=[1, 2, 3]), [1, 2, 3, 2])
        self.assertEqual(half_turning(plan=short(2), half=[1, 2, 3], ground=Rests(13)), [8, 11, 0])
        self.assertEqual(half_back(plan=short(2), half=[8, 11, 0], ground=Rests(13)), [1, 2, 3])

    def test_plan_by_name_alone(self):
        for asked in (half_turning, half_back):
            with self.assertRaises(TypeError):
                asked(Rests(13), [1, 2, 3], short(2))

    def test_what_is_handed_in_stays(self):
        for row in ([1, 2], [1, 2, 3, 2]):
            kept = list(row)
            self.assertIs(is_even(row), True)
            self.assert_own(half_of, row)
            self.assertEqual(row, kept)
        for half in ([1, 2], [1, 2, 3]):
            kept = list(half)
            self.assert_own(even_from, half)
            self.assert_own(half_turning, Rests(13), half)
            self.assert_own(half_back, Rests(13), half)
            self.assertEqual(half, kept)


if __name__ == "__main__":
    unittest.main()
