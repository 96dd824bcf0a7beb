"""Point [7]."""

import unittest

from asking import OTHER_THINGS, Asking
from turnsums.errors import NoRoot, NoShare
from turnsums.plainly import plain_turning, shows_turning, turned_about
from turnsums.rests import Rests
from turnsums.roots import Roots

LENGTHS_OF_RESTS = ((2, (1,)), (3, (1, 2)), (7, (1, 2, 3, 6)), (97, (1, 2, 4, 12, 24, 32, 48)), (241, (15, 60)))


def sums_of_rests(prime, row, way):
    """By the root alone, found without the ground."""
    n = len(row)
    base = next(base for base in range(1, prime)
                if len({pow(base, power, prime) for power in range(prime - 1)}) == prime - 1)
    root = pow(base, (prime - 1) // n, prime)
    return [sum(row[j] * pow(root, way * j * k % n, prime) for j in range(n)) % prime for k in range(n)]


def sums_on(ground, row, way):
    n = len(row)
    told = []
    for k in range(n):
        worth = ground.worth_of(0)
        for j in range(n):
            worth = ground.sum_of(worth, ground.product_of(row[j], ground.root_at(n, way * j * k)))
        told.append(worth)
    return told


def row_of_rests(prime, n):
    return [(5 * j * j + 3 * j + 1) * (j + 7) % prime for j in range(n)]


def row_of_roots(ground, n):
    size = len(ground.worth_of(0))
    return [tuple((-1) ** (j + at) * (10 ** 12 - 7 ** (j % 9) - at * j) for at in range(size)) for j in range(n)]


class OnRests(Asking, unittest.TestCase):
    def test_forth(self):
        for prime, lengths in LENGTHS_OF_RESTS:
            for n in lengths:
                row = row_of_rests(prime, n)
                wanted = sums_of_rests(prime, row, 1)
                self.assert_same(plain_turning(Rests(prime), row), wanted)
                self.assert_same(plain_turning(Rests(prime), tuple(row), back=False), wanted)
                self.assertEqual(row, row_of_rests(prime, n))

    def test_back(self):
        for prime, lengths in LENGTHS_OF_RESTS:
            for n in lengths:
                ground = Rests(prime)
                row = row_of_rests(prime, n)
                sums = sums_of_rests(prime, row, -1)
                wanted = [worth * pow(n, -1, prime) % prime for worth in sums]
                self.assert_same(plain_turning(ground, row, back=True), wanted)
                self.assert_same(plain_turning(ground, tuple(row), back=True), wanted)
                self.assertEqual(row, row_of_rests(prime, n))

    def test_the_row_comes_again(self):
        for prime, lengths in LENGTHS_OF_RESTS:
            for n in lengths:
                ground = Rests(prime)
                row = row_of_rests(prime, n)
                self.assert_same(plain_turning(ground, plain_turning(ground, row), back=True), row)
                self.assert_same(plain_turning(ground, plain_turning(ground, row, back=True)), row)

    def test_as_told(self):
        self.assert_same(plain_turning(Rests(5), [1, 2, 3, 4]), [0, 4, 3, 2])
        self.assert_same(plain_turning(Rests(5), [0, 4, 3, 2], back=True), [1, 2, 3, 4])
        self.assert_same(plain_turning(Rests(2), [1]), [1])
        self.assert_same(plain_turning(Rests(97), (0, 96)), [96, 1])

    def test_no_root(self):
        for prime in (2, 3, 7, 97):
            for n in range(1, 61):
                if (prime - 1) % n:
                    for back in (False, True):
                        self.assert_refused(NoRoot, n, plain_turning, Rests(prime), [0] * n, back=back)


class OnRoots(Asking, unittest.TestCase):
    def test_forth_and_the_row_comes_again(self):
        for order in range(1, 31):
            ground = Roots(order)
            for n in range(1, order + 1):
                if order % n:
                    continue
                row = row_of_roots(ground, n)
                turning = plain_turning(ground, row)
                self.assert_same(turning, sums_on(ground, row, 1))
                self.assert_same(plain_turning(ground, tuple(row)), turning)
                self.assert_same(plain_turning(ground, turning, back=True), row)
                self.assert_same(plain_turning(ground, tuple(turning), back=True), row)
                self.assertEqual(row, row_of_roots(ground, n))

    def test_back(self):
        for order in (1, 2, 6, 8, 12, 15):
            ground = Roots(order)
            row = [tuple(order * part for part in worth) for worth in row_of_roots(ground, order)]
            wanted = [tuple(part // order for part in worth) for worth in sums_on(ground, row, -1)]
            self.assert_same(plain_turning(ground, row, back=True), wanted)
            self.assert_same(plain_turning(ground, wanted), row)

    def test_as_told(self):
        ground = Roots(4)
        row = [(1, 0), (2, 0), (3, 0), (4, 0)]
        self.assert_same(plain_turning(ground, row), [(10, 0), (-2, -2), (-2, 0), (-2, 2)])
        self.assert_same(plain_turning(Roots(1), [(-7,)]), [(-7,)])

    def test_no_share(self):
        for order in range(2, 31):
            ground = Roots(order)
            for n in range(2, order + 1):
                if order % n == 0:
                    row = [ground.worth_of(1)] + [ground.worth_of(0)] * (n - 1)
                    self.assert_refused(NoShare, n, plain_turning, ground, row, back=True)
        self.assert_refused(NoShare, 2, plain_turning, Roots(2), [(2,), (1,)], back=True)
        self.assert_refused(NoShare, 2, plain_turning, ground=Roots(4), row=[(2, 0), (2, 1)], back=True)

    def test_no_root_ahead_of_no_share(self):
        for order in (1, 2, 12, 30):
            ground = Roots(order)
            for n in range(1, 61):
                if order % n:
                    row = [ground.worth_of(1)] * n
                    for back in (False, True):
                        self.assert_refused(NoRoot, n, plain_turning, ground, row, back=back)


class Calls(Asking, unittest.TestCase):
    def test_by_name(self):
        self.assertEqual(plain_turning(row=[1, 2], ground=Rests(7)), [3, 6])
        self.assertEqual(plain_turning(back=True, row=[3, 6], ground=Rests(7)), [1, 2])
        self.assertEqual(turned_about(row=[1, 2, 3]), [1, 3, 2])
        self.assertIs(shows_turning(thing=[3, 6], row=[1, 2], ground=Rests(7)), True)

    def test_back_by_name_alone(self):
        with self.assertRaises(TypeError):
            plain_turning(Rests(7), [1, 2], True)

    def test_told_lists_are_the_askers_own(self):
        self.assert_own(plain_turning, Rests(7), [1, 2, 3])
        self.assert_own(plain_turning, Roots(1), [(5,)])
        row = [5]
        plain_turning(Rests(7), row).append(1)
        turned_about(row).append(1)
        self.assertEqual(row, [5])


class About(Asking, unittest.TestCase):
    def test_turned_about(self):
        for n in range(1, 61):
            row = [10 * j for j in range(n)]
            wanted = [row[0]] + [row[j] for j in range(n - 1, 0, -1)]
            self.assert_same(turned_about(row), wanted)
            self.assert_same(turned_about(tuple(row)), wanted)
            self.assertEqual(row, [10 * j for j in range(n)])
            self.assertEqual(turned_about(turned_about(row)), row)
        self.assert_same(turned_about([(1, 2), (3, 4), (5, 6)]), [(1, 2), (5, 6), (3, 4)])
        self.assert_own(turned_about, [1, 2, 3])

    def test_a_turning_turned_about_is_shared_back(self):
        ground = Rests(13)
        row = row_of_rests(13, 6)
        about = turned_about(plain_turning(ground, row))
        self.assertEqual([ground.shared_by(worth, 6) for worth in about], plain_turning(ground, row, back=True))


class Shown(Asking, unittest.TestCase):
    def test_just_the_list_on_rests(self):
        ground = Rests(7)
        row = [1, 2, 4]
        turning = plain_turning(ground, row)
        self.assertIs(shows_turning(ground, row, turning), True)
        self.assertIs(shows_turning(ground, tuple(row), list(turning)), True)
        for wrong in (tuple(turning), turning + [0], turning[:-1], [], [turning], turning[::-1], row):
            self.assertIs(shows_turning(ground, row, wrong), wrong == turning, wrong)
        for place in range(3):
            for part in (*OTHER_THINGS, (turning[place] + 1) % 7, turning[place] + 7, turning[place] - 7, (0,), "0"):
                wrong = turning[:place] + [part] + turning[place + 1:]
                self.assertIs(shows_turning(ground, row, wrong), False, wrong)

    def test_a_truth_is_no_number(self):
        self.assertIs(shows_turning(Rests(7), [1], [1]), True)
        self.assertIs(shows_turning(Rests(7), [1], [True]), False)
        self.assertIs(shows_turning(Rests(7), [0], [0]), True)
        self.assertIs(shows_turning(Rests(7), [0], [False]), False)
        self.assertIs(shows_turning(Rests(2), [1], [True]), False)
        self.assertIs(shows_turning(Roots(1), [(1,)], [(1,)]), True)
        self.assertIs(shows_turning(Roots(1), [(1,)], [(True,)]), False)
        self.assertIs(shows_turning(Roots(4), [(1, 0)], [(1, 0)]), True)
        self.assertIs(shows_turning(Roots(4), [(1, 0)], [(1, False)]), False)

    def test_just_the_list_on_roots(self):
        ground = Roots(12)
        row = [(1, -2, 3, 0), (0, 1, 0, 5), (10 ** 12, 0, 0, -1), (0, 0, 0, 0)]
        turning = plain_turning(ground, row)
        self.assertIs(shows_turning(ground, row, turning), True)
        self.assertIs(shows_turning(ground, tuple(row), turning), True)
        self.assertIs(shows_turning(ground, row, tuple(turning)), False)
        self.assertIs(shows_turning(ground, row, turning + turning[:1]), False)
        self.assertIs(shows_turning(ground, row, turning[:-1]), False)
        for place in range(4):
            worth = turning[place]
            for part in (list(worth), worth + (0,), worth[:-1], worth[0], None, (worth,)):
                wrong = turning[:place] + [part] + turning[place + 1:]
                self.assertIs(shows_turning(ground, row, wrong), False, wrong)
            for at in range(4):
                for more in (1, -1):
                    part = worth[:at] + (worth[at] + more,) + worth[at + 1:]
                    wrong = turning[:place] + [part] + turning[place + 1:]
                    self.assertIs(shows_turning(ground, row, wrong), False, wrong)

    def test_other_things(self):
        for thing in (*OTHER_THINGS, 5, "[5]", (5,), [[5]]):
            self.assertIs(shows_turning(Rests(7), [5], thing), False)
            self.assertIs(shows_turning(Roots(1), [(5,)], thing), False)
        self.assertIs(shows_turning(Roots(1), [(5,)], [(5,)]), True)

    def test_no_root_whatever_the_thing_is(self):
        for thing in (*OTHER_THINGS, 0, [0, 0, 0, 0, 0]):
            self.assert_refused(NoRoot, 5, shows_turning, Rests(7), [0] * 5, thing)
            self.assert_refused(NoRoot, 5, shows_turning, Roots(12), [(0, 0, 0, 0)] * 5, thing)

    def test_the_thing_stays_as_it_was(self):
        thing = [[1, [2]], None, (3,)]
        shows_turning(Rests(7), [1, 2, 4], thing)
        self.assertEqual(thing, [[1, [2]], None, (3,)])


if __name__ == "__main__":
    unittest.main()
