"""Point [14]."""

import itertools
import unittest

from asking import OTHER_THINGS, Asking
from turnsums.errors import BadLength
from turnsums.orders import inverse_order, is_order, order_cycles, put_in_order, turned_order

SMALL = [list(order) for n in range(1, 7) for order in itertools.permutations(range(n))]
GREAT = [[(7 * i + 3) % 60 for i in range(60)], list(range(60)), list(range(59, -1, -1)), [*range(1, 60), 0]]

PARTS = ([], [2], [3], [60], [2, 2], [2, 3], [3, 2], [2, 2, 3], [3, 5, 4], [2, 3, 2, 5], [5, 2, 3, 2], [2] * 5, [59],
         [4, 15], [15, 4], [10, 6])


class IsOrder(Asking, unittest.TestCase):
    def test_orders(self):
        for order in SMALL + GREAT:
            self.assertIs(is_order(order), True)
            self.assertIs(is_order(tuple(order)), False)
            self.assertIs(is_order([number + 1 for number in order]), False)
            self.assertIs(is_order([-number for number in order]), len(order) == 1)
            self.assertIs(is_order(order + [0]), False)
            self.assertIs(is_order(order + [order[-1]]), False)
            self.assertIs(is_order(order + [len(order)]), True)
            self.assertIs(is_order(order + [len(order) + 1]), False)

    def test_other_things(self):
        for thing in (*OTHER_THINGS, 0, 1, -1, [1], [-1], [0, 0], [1, 1], [0, 2], [0, 1, 1], [1, 2], (0,), (0, 1), "01",
                      [[0]], [[0], [1]], [(0,)], [None, 0], ["0"], ["0", "1"], [0, "1"], [0, None], [0, [1]], [0, (1,)],
                      [10 ** 30], [0, 10 ** 30]):
            self.assertIs(is_order(thing), False, thing)

    def test_truths_are_no_numbers(self):
        for thing in ([False], [False, True], [0, True], [False, 1], [True, 0], [1, False], [2, True, 0]):
            self.assertIs(is_order(thing), False, thing)

    def test_the_thing_stays_as_it_was(self):
        thing = [2, 0, 1]
        is_order(thing)
        self.assertEqual(thing, [2, 0, 1])

    def test_by_name(self):
        self.assertIs(is_order(thing=[0]), True)


class Inverse(Asking, unittest.TestCase):
    def test_by_its_words(self):
        for order in SMALL + GREAT:
            told = inverse_order(order)
            self.assert_same(told, [order.index(k) for k in range(len(order))])
            self.assert_same(inverse_order(tuple(order)), told)
            self.assert_same(inverse_order(order=told), order)
        self.assert_same(inverse_order([2, 0, 1]), [1, 2, 0])

    def test_own(self):
        order = [0]
        self.assert_own(inverse_order, order)
        self.assert_own(inverse_order, [1, 2, 0])
        self.assertEqual(order, [0])


class Put(Asking, unittest.TestCase):
    def test_by_its_words(self):
        for order in SMALL + GREAT:
            row = [(10 * i, -i) for i in range(len(order))]
            told = put_in_order(row, order)
            self.assertIs(type(told), list)
            self.assertEqual(len(told), len(row))
            for i, place in enumerate(order):
                self.assertEqual(told[place], row[i])
            self.assert_same(put_in_order(tuple(row), tuple(order)), told)
            self.assert_same(put_in_order(told, inverse_order(order)), row)
        self.assert_same(put_in_order(["a", "b", "c"], [2, 0, 1]), ["b", "c", "a"])
        self.assert_same(put_in_order(order=[1, 0], row=(5, 7)), [7, 5])

    def test_unlike_lengths(self):
        for row, order in (([1], [0, 1]), ([1, 2], [0]), ([1, 2, 3], [1, 0]), ([5] * 60, [0]), ((5, 6), (0,))):
            self.assert_refused(BadLength, len(row), put_in_order, row, order)
        self.assert_refused(BadLength, 3, put_in_order, order=[0], row=[1, 2, 3])

    def test_own(self):
        row, order = [5, 6], [1, 0]
        self.assert_own(put_in_order, row, order)
        self.assert_own(put_in_order, [5], [0])
        self.assertEqual((row, order), ([5, 6], [1, 0]))


class Cycles(Asking, unittest.TestCase):
    def test_by_its_words(self):
        for order in SMALL + GREAT:
            told = order_cycles(order)
            self.assertIs(type(told), list)
            for places in told:
                self.assertIs(type(places), list)
                self.assertGreaterEqual(len(places), 2)
                self.assertEqual(places[0], min(places))
                for place, beside in zip(places, places[1:] + places[:1]):
                    self.assertEqual(order[place], beside)
            moved = [place for places in told for place in places]
            self.assertEqual(sorted(moved), [i for i, k in enumerate(order) if i != k])
            self.assertEqual([places[0] for places in told], sorted(places[0] for places in told))
            self.assert_same(order_cycles(tuple(order)), told)

    def test_as_told(self):
        self.assert_same(order_cycles([0]), [])
        self.assert_same(order_cycles([0, 1, 2]), [])
        self.assert_same(order_cycles([1, 0]), [[0, 1]])
        self.assert_same(order_cycles([2, 0, 1]), [[0, 2, 1]])
        self.assert_same(order_cycles([1, 2, 0]), [[0, 1, 2]])
        self.assert_same(order_cycles([0, 5, 4, 3, 2, 1]), [[1, 5], [2, 4]])
        self.assert_same(order_cycles(order=[3, 4, 2, 0, 5, 1]), [[0, 3], [1, 4, 5]])
        self.assert_same(order_cycles([*range(1, 60), 0]), [list(range(60))])

    def test_own(self):
        order = [1, 0, 3, 2]
        self.assert_own(order_cycles, order)
        first, second = order_cycles(order), order_cycles(order)
        for places in first:
            places.append("more")
        self.assertEqual(second, [[0, 1], [2, 3]])
        self.assertEqual(order_cycles(order), second)
        self.assertEqual(order, [1, 0, 3, 2])


class Turned(Asking, unittest.TestCase):
    def test_by_its_digits(self):
        for parts in PARTS:
            n = 1
            for part in parts:
                n *= part
            weights = []
            left = n
            for part in parts:
                left //= part
                weights.append(left)
            told = turned_order(parts)
            self.assertIs(is_order(told), True)
            self.assertEqual(len(told), n)
            for digits in itertools.product(*[range(part) for part in parts]):
                place = sum(q * m for q, m in zip(digits, weights))
                worth, times = 0, 1
                for q, part in zip(digits, parts):
                    worth += times * q
                    times *= part
                self.assert_same(told[place], worth)
            self.assert_same(turned_order(tuple(parts)), told)

    def test_as_told(self):
        self.assert_same(turned_order([]), [0])
        self.assert_same(turned_order([5]), [0, 1, 2, 3, 4])
        self.assert_same(turned_order([2, 2]), [0, 2, 1, 3])
        self.assert_same(turned_order([2, 3]), [0, 2, 4, 1, 3, 5])
        self.assert_same(turned_order([3, 2]), [0, 3, 1, 4, 2, 5])
        self.assert_same(turned_order(parts=[2, 2, 2]), [0, 4, 2, 6, 1, 5, 3, 7])

    def test_own(self):
        parts = [2, 3]
        self.assert_own(turned_order, parts)
        self.assert_own(turned_order, [])
        self.assertEqual(parts, [2, 3])


if __name__ == "__main__":
    unittest.main()
