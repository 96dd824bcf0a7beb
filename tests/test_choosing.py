"""Points [12] and [13], best_plan, and [1] (b)."""

import itertools
import unittest

from asking import Asking
from samples import (
    length_in, parts, plain, plans_by_the_rules, powers, roots_of, row_on, short, split, steps_by_the_list, stretch,
    sums_on,
)
from turnsums.choosing import all_plans, best_plan, how_many
from turnsums.errors import NoRoot
from turnsums.plans import is_plan, plan_fits, plan_length
from turnsums.rests import Rests
from turnsums.roots import Roots
from turnsums.steps import cost_of
from turnsums.turning import turned_by

GROUNDS = tuple(Rests(prime) for prime in (2, 3, 5, 7, 11, 13, 17, 19, 29, 31, 37, 41, 43, 61, 97, 157, 241)) + tuple(
    Roots(order) for order in range(1, 31))

TABLES = ((1, 3), (1, 1), (0, 1), (1, 0), (0, 0), (1000, 1), (1, 1000), (7, 2), (3, 0))


def few():
    """Each ground, length and stretch of which all_plans may be asked, with the plans by the rules."""
    for ground in GROUNDS:
        for length in range(1, 61):
            if roots_of(ground) % length == 0:
                for with_stretch in (True, False):
                    told = list(itertools.islice(plans_by_the_rules(ground, length, with_stretch), 401))
                    if len(told) <= 400:
                        yield ground, length, with_stretch, told


FEW = list(few())


def many_by_the_rules(ground, length, with_stretch, known):
    """How many PLANs [12] makes, without making them."""
    if (length, with_stretch) in known:
        return known[length, with_stretch]
    size = roots_of(ground)
    many = 2 if length <= 4 else 1
    for r in range(2, length):
        if length % r == 0:
            m = length // r
            both = (many_by_the_rules(ground, r, with_stretch, known)
                    * many_by_the_rules(ground, m, with_stretch, known))
            many += both if [d for d in range(2, r + 1) if r % d == 0 == m % d] else 2 * both
    if length >= 3 and all(length % d for d in range(2, length)) and size % (length - 1) == 0:
        many += many_by_the_rules(ground, length - 1, with_stretch, known)
    if with_stretch and length >= 2:
        for m in range(2 * length - 1, 4 * length + 1):
            if size % m == 0:
                many += many_by_the_rules(ground, m, False, known)
    known[length, with_stretch] = many
    return many


def has_stretch(plan):
    return plan[0] == "stretch" or any(has_stretch(part) for part in plan[1:] if isinstance(part, tuple))


def stretch_in_stretch(plan):
    inner = [part for part in plan[1:] if isinstance(part, tuple)]
    if plan[0] == "stretch" and has_stretch(plan[2]):
        return True
    return any(stretch_in_stretch(part) for part in inner)


class AllPlans(Asking, unittest.TestCase):
    def test_by_the_rules(self):
        for ground, length, with_stretch, wanted in FEW:
            self.assert_same(all_plans(ground, length, stretch=with_stretch), wanted)

    def test_enough_are_asked(self):
        lengths = {(type(ground), length) for ground, length, _, _ in FEW}
        for length in (1, 2, 3, 4, 5, 6, 7, 8, 10, 12):
            self.assertIn((Rests, length), lengths)
        for length in (1, 2, 3, 4, 5, 6, 7, 8, 9, 10, 12, 15, 21, 29):
            self.assertIn((Roots, length), lengths)
        self.assertGreater(max(len(told) for *_, told in FEW), 200)
        words = {plan[0] for _, _, _, told in FEW for plan in told}
        self.assertEqual(len(words), 6)

    def test_as_told(self):
        self.assert_same(all_plans(Rests(2), 1), [plain(1), short(1)])
        self.assert_same(all_plans(Rests(97), 1, stretch=True), [plain(1), short(1)])
        self.assert_same(all_plans(Rests(3), 2), [plain(2), short(2)])
        self.assert_same(all_plans(Rests(5), 2, stretch=True), [
            plain(2), short(2), stretch(2, plain(4)), stretch(2, short(4)),
            stretch(2, split(plain(2), plain(2))), stretch(2, split(plain(2), short(2))),
            stretch(2, split(short(2), plain(2))), stretch(2, split(short(2), short(2))),
        ])
        self.assert_same(all_plans(Rests(5), 2, stretch=False), [plain(2), short(2)])
        self.assert_same(all_plans(Rests(5), 4, stretch=False), [
            plain(4), short(4), split(plain(2), plain(2)), split(plain(2), short(2)), split(short(2), plain(2)),
            split(short(2), short(2)),
        ])
        self.assert_same(all_plans(Rests(7), 3, stretch=False), [
            plain(3), short(3), powers(3, plain(2)), powers(3, short(2)),
        ])
        # The ground has a root of 3 and none of 2.
        self.assert_same(all_plans(Roots(3), 3), [plain(3), short(3)])
        self.assert_same(all_plans(Roots(5), 5), [plain(5)])
        self.assert_same(all_plans(Roots(29), 29), [plain(29)])
        told = all_plans(Roots(15), 15, stretch=False)
        self.assert_same(told, [plain(15), split(plain(3), plain(5)), split(short(3), plain(5)),
                                split(plain(5), plain(3)), split(plain(5), short(3)),
                                parts(plain(3), plain(5)), parts(short(3), plain(5)),
                                parts(plain(5), plain(3)), parts(plain(5), short(3))])

    def test_the_longest_and_the_shortest_stretch(self):
        # From 2 * length - 1 to 4 * length.
        self.assertIn(stretch(2, short(3)), all_plans(Rests(7), 2))
        self.assertIn(stretch(3, plain(5)), all_plans(Roots(15), 3))
        self.assertIn(stretch(2, plain(8)), all_plans(Roots(8), 2))
        self.assertIn(stretch(3, plain(12)), all_plans(Rests(13), 3))
        for plan in all_plans(Rests(13), 2):
            if plan[0] == "stretch":
                self.assertIn(length_in(plan[2]), (3, 4, 6))
        self.assert_same(all_plans(Roots(10), 2), [plain(2), short(2), stretch(2, plain(5))])

    def test_no_stretch_within_a_stretch(self):
        some = False
        for _, _, with_stretch, told in FEW:
            for plan in told:
                self.assertFalse(stretch_in_stretch(plan))
                some = some or has_stretch(plan)
                if not with_stretch:
                    self.assertFalse(has_stretch(plan))
        self.assertTrue(some)
        # But within all others.
        self.assertIn(powers(3, stretch(2, short(3))), all_plans(Rests(7), 3))
        self.assertIn(split(stretch(2, short(3)), short(3)), all_plans(Rests(7), 6))
        self.assertIn(parts(short(3), stretch(2, short(3))), all_plans(Rests(7), 6))

    def test_all_are_plans_that_fit(self):
        for ground, length, _, told in FEW:
            for plan in told:
                self.assertIs(is_plan(plan), True)
                self.assertEqual(plan_length(plan), length)
                self.assertIs(plan_fits(ground, plan), True)

    def test_each_turns_as_the_plain_one(self):
        for ground in (Rests(13), Rests(31), Roots(10), Roots(15)):
            for length in range(1, 31):
                if roots_of(ground) % length == 0:
                    told = list(itertools.islice(plans_by_the_rules(ground, length, True), 60))
                    row = row_on(ground, length)
                    for plan in told:
                        self.assert_same(turned_by(ground, plan, row), sums_on(ground, row))

    def test_no_root(self):
        for ground in (Rests(2), Rests(7), Rests(97), Roots(1), Roots(12), Roots(30)):
            for length in range(1, 61):
                if roots_of(ground) % length:
                    for with_stretch in (True, False):
                        for asked in (all_plans, how_many, best_plan):
                            self.assert_refused(NoRoot, length, asked, ground, length, stretch=with_stretch)
                    for asked in (all_plans, how_many, best_plan):
                        self.assert_refused(NoRoot, length, asked, ground, length)


class HowMany(Asking, unittest.TestCase):
    def test_as_many_as_all_plans(self):
        for ground, length, with_stretch, wanted in FEW:
            self.assert_same(how_many(ground, length, stretch=with_stretch), len(wanted))

    def test_far_more(self):
        great = 0
        for ground in (Rests(97), Rests(241), Rests(421), Rests(2521), Roots(24), Roots(28), Roots(30)):
            for length in range(1, 61):
                if roots_of(ground) % length == 0:
                    for with_stretch in (True, False):
                        wanted = many_by_the_rules(ground, length, with_stretch, {})
                        self.assert_same(how_many(ground, length, stretch=with_stretch), wanted)
                        great = max(great, wanted)
        self.assertGreater(great, 10 ** 12)

    def test_left_out_stretch_is_true(self):
        for ground in (Rests(97), Roots(24)):
            self.assertEqual(how_many(ground, 8), how_many(ground, 8, stretch=True))
            self.assertNotEqual(how_many(ground, 8), how_many(ground, 8, stretch=False))
        self.assertEqual(all_plans(Rests(7), 3), all_plans(Rests(7), 3, stretch=True))
        self.assertNotEqual(all_plans(Rests(7), 3), all_plans(Rests(7), 3, stretch=False))


def price(plan, table):
    sums, products = steps_by_the_list(plan)
    return sums * table[0] + products * table[1]


class BestPlan(Asking, unittest.TestCase):
    def test_first_of_least_cost(self):
        for ground, length, with_stretch, told in FEW:
            for table in TABLES:
                # min tells the first of several.
                best = min(told, key=lambda plan: price(plan, table))
                wanted = (best, price(best, table))
                self.assert_same(best_plan(ground, length, table=table, stretch=with_stretch), wanted)

    def test_left_out(self):
        for ground, length, with_stretch, told in FEW:
            if with_stretch:
                best = min(told, key=lambda plan: price(plan, (1, 3)))
                self.assert_same(best_plan(ground, length), (best, price(best, (1, 3))))

    def test_ties(self):
        # All cost nought.
        for length in (1, 2, 6, 12, 48):
            self.assert_same(best_plan(Rests(97), length, table=(0, 0)), (plain(length), 0))
        # No products are made for either, and as many sums.
        self.assert_same(best_plan(Rests(97), 1), (plain(1), 0))
        self.assert_same(best_plan(Rests(97), 2, table=(1, 0)), (plain(2), 2))
        self.assert_same(best_plan(Rests(97), 2, table=(0, 1)), (short(2), 0))
        # The lesser factor goes ahead, and split ahead of parts where products are free.
        self.assert_same(best_plan(Rests(97), 6, table=(1, 3)), (parts(short(2), short(3)), 26))
        self.assert_same(best_plan(Rests(97), 6, table=(1, 0)), (split(plain(2), plain(3)), 18))

    def test_great_lengths(self):
        for ground in (Rests(97), Rests(241), Rests(2521), Rests(3313), Rests(4513), Roots(24), Roots(28), Roots(30)):
            for length in range(1, 61):
                if roots_of(ground) % length:
                    continue
                for table in ((1, 3), (1, 0), (0, 1)):
                    for with_stretch in (True, False):
                        plan, cost = best_plan(ground, length, table=table, stretch=with_stretch)
                        self.assertIs(is_plan(plan), True)
                        self.assertEqual(length_in(plan), length)
                        self.assertIs(plan_fits(ground, plan), True)
                        self.assertFalse(stretch_in_stretch(plan))
                        self.assertTrue(with_stretch or not has_stretch(plan))
                        self.assert_same(cost, price(plan, table))
                        self.assertEqual(cost, cost_of(plan, table=table))
                        self.assertEqual(cost, least_by_the_rules(ground, length, with_stretch, table, {}))

    def test_stretch_where_it_is_best(self):
        sixteen = split(short(2), split(short(2), short(4)))
        inner = stretch(23, parts(short(3), sixteen))
        ground = Rests(3313)
        self.assert_same(best_plan(ground, 23), (inner, 1941))
        self.assert_same(best_plan(ground, 23, stretch=False), (plain(23), 1958))
        self.assert_same(best_plan(ground, 46), (parts(short(2), inner), 3928))
        self.assert_same(best_plan(ground, 46, stretch=False), (parts(short(2), plain(23)), 3962))
        row = row_on(ground, 46)
        self.assertEqual(turned_by(ground, parts(short(2), inner), row), sums_on(ground, row))
        plan = stretch(47, parts(short(3), split(short(2), sixteen)))
        self.assert_same(best_plan(Rests(4513), 47, table=(1, 3)), (plan, 4581))
        self.assert_same(best_plan(Rests(4513), 47, stretch=False, table=(1, 3)), (plain(47), 8510))

    def test_what_it_tells_turns(self):
        for ground in (Rests(241), Rests(2521), Roots(30)):
            for length in (15, 30, 60):
                if roots_of(ground) % length == 0:
                    row = row_on(ground, length)
                    plan = best_plan(ground, length)[0]
                    self.assertEqual(turned_by(ground, plan, row), sums_on(ground, row))


def least_by_the_rules(ground, length, with_stretch, table, known):
    """The least cost alone, by the rules of [12] and the list of [10]."""
    if (length, with_stretch) in known:
        return known[length, with_stretch]
    size = roots_of(ground)
    costs = [price(plain(length), table)]
    if length <= 4:
        costs.append(price(short(length), table))
    for r in range(2, length):
        if length % r == 0:
            m = length // r
            both = (m * least_by_the_rules(ground, r, with_stretch, table, known)
                    + r * least_by_the_rules(ground, m, with_stretch, table, known))
            coprime = not [d for d in range(2, r + 1) if r % d == 0 == m % d]
            costs.append(both if coprime else both + (r - 1) * (m - 1) * table[1])
    if length >= 3 and all(length % d for d in range(2, length)) and size % (length - 1) == 0:
        inner = least_by_the_rules(ground, length - 1, with_stretch, table, known)
        costs.append(3 * inner + 2 * (length - 1) * (table[0] + table[1]))
    if with_stretch and length >= 2:
        for m in range(2 * length - 1, 4 * length + 1):
            if size % m == 0:
                inner = least_by_the_rules(ground, m, False, table, known)
                costs.append(3 * inner + 2 * (length + m) * table[1])
    known[length, with_stretch] = min(costs)
    return min(costs)


class Calls(Asking, unittest.TestCase):
    def test_by_name(self):
        ground = Rests(7)
        self.assertEqual(all_plans(stretch=False, length=3, ground=ground), all_plans(ground, 3, stretch=False))
        self.assertEqual(how_many(stretch=False, length=3, ground=ground), 4)
        told = best_plan(stretch=False, table=(0, 1), length=3, ground=ground)
        self.assertEqual(told, best_plan(ground, 3, table=(0, 1), stretch=False))
        self.assert_refused(NoRoot, 4, best_plan, ground=ground, length=4)

    def test_by_name_alone(self):
        for asked in (all_plans, how_many):
            with self.assertRaises(TypeError):
                asked(Rests(7), 3, False)
        with self.assertRaises(TypeError):
            best_plan(Rests(7), 3, (1, 3))

    def test_told_lists_are_the_askers_own(self):
        for with_stretch in (True, False):
            self.assert_own(lambda: all_plans(Rests(7), 3, stretch=with_stretch))


if __name__ == "__main__":
    unittest.main()
