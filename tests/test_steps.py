"""Points [11] and [1] (b)."""

import unittest

from asking import Asking
from samples import (
    FORMS, GREAT, NESTED, fitting, length_in, lengths_of, parts, plain, powers, row_on, short, split, split_deep,
    steps_by_the_list, stretch,
)
from turnsums.steps import cost_of, steps_of
from turnsums.turning import counted, turned_by

PLANS = [plan for plan, _ in FORMS + NESTED + GREAT]


class Steps(Asking, unittest.TestCase):
    def test_by_the_list(self):
        for plan in PLANS:
            sums, products = steps_by_the_list(plan)
            self.assert_same(steps_of(plan), (sums, products))
            self.assert_same(steps_of(plan, back=False), (sums, products))
            self.assert_same(steps_of(plan, back=True), (sums, products + length_in(plan)))

    def test_as_told(self):
        told = (
            (plain(1), (0, 0)), (plain(5), (20, 16)), (short(1), (0, 0)), (short(2), (2, 0)), (short(3), (7, 1)),
            (short(4), (8, 1)), (split(short(2), plain(3)), (18, 10)), (parts(short(3), short(4)), (52, 7)),
            (powers(5, short(4)), (32, 11)), (stretch(5, plain(9)), (216, 220)),
            (stretch(2, short(3)), (21, 13)),
        )
        for plan, pair in told:
            self.assert_same(steps_of(plan), pair)

    def test_what_counted_tells(self):
        for plan in PLANS:
            if length_in(plan) > 60:
                continue
            for ground in list(fitting(lengths_of(plan)))[:2]:
                for seed in (0, 4):
                    row = row_on(ground, length_in(plan), seed)
                    self.assert_same(counted(ground, plan, row)[1], steps_of(plan))
                    turning = turned_by(ground, plan, row)
                    self.assert_same(counted(ground, plan, turning, back=True)[1], steps_of(plan, back=True))

    def test_of_a_plan_that_fits_no_ground_at_hand(self):
        self.assert_same(steps_of(powers(59, plain(58))), (3 * 58 * 57 + 116, 3 * 57 * 57 + 116))
        self.assert_same(steps_of(split_deep(9)), (10 * 1024, sum(2 ** (9 - k) * (2 ** k - 1) for k in range(1, 10))))


class Costs(Asking, unittest.TestCase):
    def test_by_the_table(self):
        for plan in PLANS:
            n = length_in(plan)
            sums, products = steps_by_the_list(plan)
            self.assert_same(cost_of(plan), sums + 3 * products)
            self.assert_same(cost_of(plan, back=False), sums + 3 * products)
            self.assert_same(cost_of(plan, back=True), sums + 3 * (products + n))
            for first, second in ((1, 3), (3, 1), (1, 1), (0, 1), (1, 0), (0, 0), (1000, 999), (7, 1000)):
                self.assert_same(cost_of(plan, table=(first, second)), first * sums + second * products)
                wanted = first * sums + second * (products + n)
                self.assert_same(cost_of(plan, table=(first, second), back=True), wanted)

    def test_as_told(self):
        self.assert_same(cost_of(plain(5)), 68)
        self.assert_same(cost_of(plain(5), back=True), 83)
        self.assert_same(cost_of(plain(5), table=(0, 1)), 16)
        self.assert_same(cost_of(plain(5), table=(1, 0), back=True), 20)
        self.assert_same(cost_of(short(1)), 0)
        self.assert_same(cost_of(short(1), back=True), 3)


class Calls(Asking, unittest.TestCase):
    def test_by_name(self):
        self.assertEqual(steps_of(plan=short(4)), (8, 1))
        self.assertEqual(steps_of(back=True, plan=short(4)), (8, 5))
        self.assertEqual(cost_of(plan=short(4)), 11)
        self.assertEqual(cost_of(back=True, table=(2, 5), plan=short(4)), 41)

    def test_table_and_back_by_name_alone(self):
        with self.assertRaises(TypeError):
            steps_of(short(4), True)
        with self.assertRaises(TypeError):
            cost_of(short(4), (1, 3))


if __name__ == "__main__":
    unittest.main()
