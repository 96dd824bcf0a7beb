"""Points [16] and [1] (d)."""

import unittest

from asking import Asking
from samples import (
    FORMS, GREAT, NESTED, fitting, length_in, lengths_of, parts, plain, powers, roots_of, row_on, short, split, stretch,
)
from turnsums.errors import BadLength, NoRoot
from turnsums.products import round_by, round_plain, straight_by, straight_plain, wrapped, wraps
from turnsums.rests import Rests
from turnsums.roots import Roots

GROUNDS = (Rests(2), Rests(7), Rests(97), Rests(241), Rests(9973), Roots(1), Roots(4), Roots(12), Roots(30))
PLANS = [plan for plan, _ in FORMS + NESTED + GREAT[:-1]]


def straight_sums(ground, one, other):
    """By the document's words, place by place."""
    told = []
    for k in range(len(one) + len(other) - 1):
        worth = ground.worth_of(0)
        for i in range(len(one)):
            for j in range(len(other)):
                if i + j == k:
                    worth = ground.sum_of(worth, ground.product_of(one[i], other[j]))
        told.append(worth)
    return told


def round_sums(ground, one, other):
    """By the document's words, place by place."""
    n = len(one)
    told = []
    for k in range(n):
        worth = ground.worth_of(0)
        for i in range(n):
            for j in range(n):
                if (i + j) % n == k:
                    worth = ground.sum_of(worth, ground.product_of(one[i], other[j]))
        told.append(worth)
    return told


def noughts(ground, row, length):
    return list(row) + [ground.worth_of(0)] * (length - len(row))


def on_grounds(plans):
    """Each plan with the first ground of either class that fits it."""
    for plan in plans:
        grounds = list(fitting(lengths_of(plan)))
        for kind in (Rests, Roots):
            for ground in [ground for ground in grounds if isinstance(ground, kind)][:1]:
                yield ground, plan


class Plainly(Asking, unittest.TestCase):
    def test_round(self):
        for ground in GROUNDS:
            for n in (1, 2, 3, 5, 8, 12):
                one, other = row_on(ground, n), row_on(ground, n, 3)
                wanted = round_sums(ground, one, other)
                self.assert_same(round_plain(ground, one, other), wanted)
                self.assert_same(round_plain(ground, tuple(one), tuple(other)), wanted)
                self.assert_same(round_plain(ground, other, one), wanted)

    def test_straight(self):
        for ground in GROUNDS:
            for n, m in ((1, 1), (1, 5), (5, 1), (2, 2), (3, 7), (7, 3), (9, 10)):
                one, other = row_on(ground, n), row_on(ground, m, 3)
                wanted = straight_sums(ground, one, other)
                self.assertEqual(len(wanted), n + m - 1)
                self.assert_same(straight_plain(ground, one, other), wanted)
                self.assert_same(straight_plain(ground, tuple(one), other), wanted)
                self.assert_same(straight_plain(ground, one, tuple(other)), wanted)
                self.assert_same(straight_plain(ground, other, one), wanted)

    def test_as_written_out(self):
        self.assert_same(round_plain(Rests(97), [1, 2, 3], [4, 5, 6]), [31, 31, 28])
        self.assert_same(straight_plain(Rests(97), [1, 2, 3], [4, 5]), [4, 13, 22, 15])
        self.assert_same(straight_plain(Rests(7), [1, 2, 3], [4, 5]), [4, 6, 1, 1])
        self.assert_same(round_plain(Rests(2), [1], [1]), [1])
        self.assert_same(straight_plain(Rests(5), [3], [4]), [2])
        # x times x is less 1.
        self.assert_same(round_plain(Roots(4), [(0, 1), (1, 0)], [(0, 1), (2, 0)]), [(1, 0), (0, 3)])
        self.assert_same(straight_plain(Roots(4), [(0, 1), (1, 0)], [(0, 1), (2, 0)]), [(-1, 0), (0, 3), (2, 0)])
        self.assert_same(straight_plain(Roots(1), [(-3,)], [(2,), (5,)]), [(-6,), (-15,)])

    def test_of_sixty(self):
        ground = Rests(241)
        one, other = row_on(ground, 60), row_on(ground, 60, 9)
        self.assert_same(round_plain(ground, one, other), round_sums(ground, one, other))
        self.assert_same(straight_plain(ground, one, other), straight_sums(ground, one, other))

    def test_no_root_is_needed(self):
        for ground in (Rests(2), Rests(3), Roots(1)):
            one, other = row_on(ground, 5), row_on(ground, 5, 2)
            self.assert_same(round_plain(ground, one, other), round_sums(ground, one, other))
            self.assert_same(straight_plain(ground, one, other), straight_sums(ground, one, other))


class RoundBy(Asking, unittest.TestCase):
    def test_by_plans(self):
        for ground, plan in on_grounds(PLANS):
            n = length_in(plan)
            one, other = row_on(ground, n), row_on(ground, n, 3)
            wanted = round_sums(ground, one, other)
            self.assert_same(round_by(ground, one, other, plan=plan), wanted)
            self.assert_same(round_by(ground, tuple(other), tuple(one), plan=plan), wanted)

    def test_without_a_plan(self):
        for ground in GROUNDS:
            for n in (1, 2, 3, 4, 6, 12, 30):
                if roots_of(ground) % n == 0:
                    one, other = row_on(ground, n), row_on(ground, n, 3)
                    wanted = round_sums(ground, one, other)
                    self.assert_same(round_by(ground, one, other), wanted)
                    self.assert_same(round_by(ground, tuple(one), tuple(other), plan=None), wanted)

    def test_refused(self):
        ground = Rests(7)
        row = row_on(ground, 60)
        # Both unlike ahead of a plan's other length, and that ahead of a root.
        self.assert_refused(BadLength, 2, round_by, ground, row[:3], row[:2], plan=plain(4))
        self.assert_refused(BadLength, 4, round_by, ground, row[:3], row[:4], plan=plain(3))
        self.assert_refused(BadLength, 4, round_by, ground, row[:5], row[:4])
        self.assert_refused(BadLength, 5, round_by, ground, tuple(row[:4]), tuple(row[:5]))
        self.assert_refused(BadLength, 5, round_by, ground, row[:5], row[:5], plan=plain(4))
        self.assert_refused(BadLength, 3, round_by, ground, row[:3], row[:3], plan=short(2))
        self.assert_refused(NoRoot, 4, round_by, ground, row[:4], row[:4], plan=plain(4))
        self.assert_refused(NoRoot, 4, round_by, ground, row[:4], row[:4])
        self.assert_refused(NoRoot, 5, round_by, ground, row[:5], row[:5])
        self.assert_refused(NoRoot, 60, round_by, ground, row, row)
        self.assert_refused(NoRoot, 4, round_by, ground, row[:12], row[:12], plan=parts(short(3), short(4)))
        self.assert_refused(NoRoot, 5, round_by, ground, row[:3], row[:3], plan=stretch(3, plain(5)))
        self.assert_refused(NoRoot, 4, round_by, Rests(11), row[:5], row[:5], plan=powers(5, short(4)))
        on_roots = row_on(Roots(4), 9)
        self.assert_refused(BadLength, 3, round_by, Roots(4), on_roots[:2], on_roots[:3])
        self.assert_refused(NoRoot, 3, round_by, Roots(4), on_roots[:3], on_roots[:3])
        self.assert_refused(NoRoot, 3, round_by, Roots(4), on_roots[:6], on_roots[:6], plan=split(short(2), plain(3)))


class StraightBy(Asking, unittest.TestCase):
    def test_by_plans(self):
        for ground, plan in on_grounds(PLANS):
            m = length_in(plan)
            # As long as they may be, and shorter.
            for n in {1, (m + 1) // 2, m}:
                for beside in {1, m + 1 - n}:
                    one, other = row_on(ground, n), row_on(ground, beside, 3)
                    wanted = straight_sums(ground, one, other)
                    self.assertEqual(len(wanted), n + beside - 1)
                    self.assert_same(straight_by(ground, one, other, plan=plan), wanted)
                    self.assert_same(straight_by(ground, tuple(other), tuple(one), plan=plan), wanted)

    def test_without_a_plan(self):
        for ground in GROUNDS:
            for n, m in ((1, 1), (1, 2), (2, 1), (2, 3), (5, 2), (4, 4), (3, 8), (12, 1), (7, 20), (60, 60)):
                one, other = row_on(ground, n), row_on(ground, m, 3)
                if any(roots_of(ground) % length == 0 for length in range(n + m - 1, 241)):
                    wanted = straight_sums(ground, one, other)
                    self.assert_same(straight_by(ground, one, other), wanted)
                    self.assert_same(straight_by(ground, tuple(one), tuple(other), plan=None), wanted)
                else:
                    self.assert_refused(NoRoot, n + m - 1, straight_by, ground, one, other)

    def test_the_least_length_of_which_there_is_a_root(self):
        class Watched(Rests):
            def __init__(self, prime):
                Rests.__init__(self, prime)
                self.lengths = set()

            def root_at(self, length, power):
                self.lengths.add(length)
                return Rests.root_at(self, length, power)

        for prime, n, m, length in ((97, 3, 3, 6), (97, 4, 4, 8), (97, 1, 1, 1), (97, 20, 14, 48), (7, 2, 2, 3),
                                    (7, 3, 2, 6), (241, 60, 60, 120), (241, 61, 61, 240), (1933, 2, 4, 6)):
            ground = Watched(prime)
            straight_by(ground, row_on(ground, n), row_on(ground, m))
            self.assertEqual(ground.lengths, {length}, (prime, n, m))

    def test_no_root_to_240(self):
        # 9972 has the divisors 36 and 277, none between.
        ground = Rests(9973)
        one, other = row_on(ground, 18), row_on(ground, 19)
        self.assert_same(straight_by(ground, one, other), straight_sums(ground, one, other))
        for n, m in ((19, 19), (36, 2), (2, 36), (60, 60), (1, 37)):
            self.assert_refused(NoRoot, n + m - 1, straight_by, ground, row_on(ground, n), row_on(ground, m))
        self.assert_refused(NoRoot, 2, straight_by, Rests(2), [1, 1], [1])
        self.assert_refused(NoRoot, 2, straight_by, Roots(1), [(1,)], [(1,), (2,)])
        self.assert_refused(NoRoot, 31, straight_by, Roots(30), row_on(Roots(30), 16), row_on(Roots(30), 16))
        # Of 241 there is a root, of 240 or less but 1, 2, 3 .. none.
        self.assertEqual((1447 - 1) % 241, 0)
        self.assert_refused(NoRoot, 7, straight_by, Rests(1447), [1] * 4, [1] * 4)

    def test_refused_by_a_plan(self):
        ground = Rests(7)
        row = row_on(ground, 20)
        self.assert_refused(BadLength, 3, straight_by, ground, row[:2], row[:3], plan=plain(3))
        self.assert_refused(BadLength, 2, straight_by, ground, row[:2], row[:2], plan=short(2))
        # The length goes ahead of a root.
        self.assert_refused(BadLength, 4, straight_by, ground, row[:3], row[:3], plan=plain(4))
        self.assert_refused(BadLength, 12, straight_by, ground, row[:13], row[:1], plan=parts(short(3), short(4)))
        self.assert_refused(NoRoot, 4, straight_by, ground, row[:2], row[:3], plan=plain(4))
        self.assert_refused(NoRoot, 5, straight_by, ground, row[:2], row[:2], plan=plain(5))
        self.assert_refused(NoRoot, 4, straight_by, ground, row[:2], row[:2], plan=parts(short(3), short(4)))
        self.assert_refused(NoRoot, 5, straight_by, ground, row[:2], row[:2], plan=stretch(3, plain(5)))
        on_roots = row_on(Roots(4), 9)
        self.assert_refused(BadLength, 4, straight_by, Roots(4), on_roots[:3], on_roots[:3], plan=short(4))
        self.assert_refused(NoRoot, 3, straight_by, Roots(4), on_roots[:3], on_roots[:3], plan=split(plain(3), short(2)))
        # A plan goes where without one there would be no length.
        self.assert_refused(NoRoot, 3, straight_by, Roots(2), [(1,)] * 2, [(1,)] * 2)
        self.assert_refused(NoRoot, 4, straight_by, Roots(2), [(1,)] * 2, [(1,)] * 2, plan=short(4))


class Wrapping(Asking, unittest.TestCase):
    def test_wrapped(self):
        for ground in GROUNDS:
            row = row_on(ground, 13)
            for length in (1, 2, 3, 6, 7, 12, 13, 14, 20, 60):
                wanted = []
                for k in range(length):
                    worth = ground.worth_of(0)
                    for place in range(13):
                        if place % length == k:
                            worth = ground.sum_of(worth, row[place])
                    wanted.append(worth)
                self.assert_same(wrapped(ground, row, length), wanted)
                self.assert_same(wrapped(ground, tuple(row), length), wanted)

    def test_wrapped_as_written_out(self):
        ground = Rests(7)
        self.assert_same(wrapped(ground, [1, 2, 3, 4, 5], 2), [2, 6])
        self.assert_same(wrapped(ground, [1, 2, 3, 4, 5], 4), [6, 2, 3, 4])
        self.assert_same(wrapped(ground, [1, 2], 4), [1, 2, 0, 0])
        self.assert_same(wrapped(Roots(4), [(1, 2)], 2), [(1, 2), (0, 0)])

    def test_wraps(self):
        for one in (1, 2, 3, 5, 8):
            for other in (1, 2, 4, 7):
                for length in range(1, 20):
                    come = [0] * length
                    for place in range(one + other - 1):
                        come[place % length] += 1
                    wanted = [place for place in range(length) if come[place] > 1]
                    self.assert_same(wraps(one, other, length), wanted)

    def test_wraps_as_written_out(self):
        self.assert_same(wraps(3, 4, 4), [0, 1])
        self.assert_same(wraps(3, 4, 6), [])
        self.assert_same(wraps(3, 4, 5), [0])
        self.assert_same(wraps(3, 4, 2), [0, 1])
        self.assert_same(wraps(1, 1, 1), [])
        self.assert_same(wraps(60, 60, 60), list(range(59)))

    def test_the_round_sum_is_the_straight_one_wrapped(self):
        for ground in GROUNDS:
            for n, m in ((1, 1), (3, 2), (4, 4), (2, 7)):
                one, other = row_on(ground, n), row_on(ground, m, 5)
                straight = straight_plain(ground, one, other)
                for length in range(max(n, m), n + m + 3):
                    told = round_plain(ground, noughts(ground, one, length), noughts(ground, other, length))
                    self.assert_same(wrapped(ground, straight, length), told)
                    # What doesn't wrap is the straight sum's own.
                    wrapping = wraps(n, m, length)
                    for k in range(length):
                        if k not in wrapping:
                            self.assertEqual(told[k], noughts(ground, straight, length)[k])


class Calls(Asking, unittest.TestCase):
    def test_by_name(self):
        ground = Rests(97)
        self.assertEqual(round_plain(other=[4, 5, 6], one=[1, 2, 3], ground=ground), [31, 31, 28])
        self.assertEqual(straight_plain(other=[4, 5], one=[1, 2, 3], ground=ground), [4, 13, 22, 15])
        self.assertEqual(round_by(plan=short(3), other=[4, 5, 6], one=[1, 2, 3], ground=ground), [31, 31, 28])
        self.assertEqual(straight_by(plan=short(4), other=[4, 5], one=[1, 2, 3], ground=ground), [4, 13, 22, 15])
        self.assertEqual(wrapped(length=2, row=[1, 2, 3], ground=ground), [4, 2])
        self.assertEqual(wraps(length=4, other=4, one=3), [0, 1])

    def test_plan_by_name_alone(self):
        for asked in (round_by, straight_by):
            with self.assertRaises(TypeError):
                asked(Rests(97), [1], [1], short(1))

    def test_what_is_handed_in_stays(self):
        ground = Rests(97)
        one, other = [1, 2, 3], [4, 5, 6]
        for asked in (round_plain, straight_plain, round_by, straight_by):
            told = asked(ground, one, other)
            self.assertEqual((one, other), ([1, 2, 3], [4, 5, 6]))
            told[0] = "other"
            told.append("more")
            self.assertEqual((one, other), ([1, 2, 3], [4, 5, 6]))
            self.assert_own(asked, ground, one, other)
        for length in (2, 3, 5):
            self.assert_own(wrapped, ground, one, length)
            self.assertEqual(one, [1, 2, 3])
        self.assert_own(wraps, 3, 4, 4)
        self.assert_own(round_by, ground, [5], [1])
        self.assert_own(straight_by, ground, [5], [1])


if __name__ == "__main__":
    unittest.main()
