"""Points [10] and [1] (a), (b)."""

import unittest

from asking import Asking
from samples import (
    FORMS, GREAT, NESTED, fitting, length_in, lengths_of, parts, plain, powers, row_on, short, split, split_deep,
    steps_by_the_list, stretch, stretch_deep, sums_on,
)
from turnsums.errors import BadLength, NoRoot, NoShare
from turnsums.numbers import is_prime
from turnsums.plainly import plain_turning
from turnsums.rests import Rests
from turnsums.roots import Roots
from turnsums.turning import counted, turned_by, ways_of

# Of the great ones the nine deep is longer than a row may be.
ALL = [plan for plan, _ in FORMS + NESTED + GREAT[:-1]]
SMALL = [plan for plan, _ in FORMS + NESTED if length_in(plan) < 30]


def on_grounds(plans, most=3):
    """Each plan with the first grounds of either class that fit it."""
    for plan in plans:
        grounds = list(fitting(lengths_of(plan)))
        for kind in (Rests, Roots):
            for ground in [ground for ground in grounds if isinstance(ground, kind)][:most]:
                yield ground, plan


class CountingRests(Rests):
    def __init__(self, prime):
        Rests.__init__(self, prime)
        self.sums = 0
        self.products = 0

    def sum_of(self, one, other):
        self.sums += 1
        return Rests.sum_of(self, one, other)

    def gap_of(self, one, other):
        self.sums += 1
        return Rests.gap_of(self, one, other)

    def product_of(self, one, other):
        self.products += 1
        return Rests.product_of(self, one, other)

    def shared_by(self, worth, number):
        self.products += 1
        return Rests.shared_by(self, worth, number)


class CountingRoots(Roots):
    def __init__(self, order):
        Roots.__init__(self, order)
        self.sums = 0
        self.products = 0

    def sum_of(self, one, other):
        self.sums += 1
        return Roots.sum_of(self, one, other)

    def gap_of(self, one, other):
        self.sums += 1
        return Roots.gap_of(self, one, other)

    def product_of(self, one, other):
        self.products += 1
        return Roots.product_of(self, one, other)

    def shared_by(self, worth, number):
        self.products += 1
        return Roots.shared_by(self, worth, number)


def counting(ground):
    """The same ground, with a count of its calls."""
    if isinstance(ground, Rests):
        return CountingRests(ground.prime)
    return CountingRoots(ground.order)


class Turning(Asking, unittest.TestCase):
    def test_each_plan_and_each_form_on_each_ground_is_among_these(self):
        told = list(on_grounds(ALL))
        for plan in ALL:
            self.assertTrue([ground for ground, other in told if other == plan and isinstance(ground, Rests)], plan)
        for plans in (FORMS, NESTED):
            words = {plan[0] for plan, _ in plans}
            on_roots = {plan[0] for ground, plan in told if isinstance(ground, Roots) and plan in dict(plans)}
            self.assertEqual(words, on_roots)

    def test_forth(self):
        for ground, plan in on_grounds(ALL):
            row = row_on(ground, length_in(plan))
            wanted = sums_on(ground, row)
            self.assert_same(turned_by(ground, plan, row), wanted)
            self.assert_same(turned_by(ground, plan, tuple(row), back=False), wanted)
            self.assertEqual(row, row_on(ground, length_in(plan)))

    def test_the_row_comes_again(self):
        for ground, plan in on_grounds(ALL):
            row = row_on(ground, length_in(plan), 5)
            turning = turned_by(ground, plan, row)
            kept = list(turning)
            self.assert_same(turned_by(ground, plan, turning, back=True), row)
            self.assert_same(turned_by(ground, plan, tuple(turning), back=True), row)
            self.assertEqual(turning, kept)
            self.assert_same(turned_by(ground, plain(len(row)), turning, back=True), row)

    def test_back_is_the_plain_one(self):
        for ground, plan in on_grounds(ALL, 1):
            n = length_in(plan)
            row = row_on(ground, n, 2)
            if isinstance(ground, Roots):
                row = [tuple(n * part for part in worth) for worth in row]
            wanted = [ground.shared_by(worth, n) for worth in sums_on(ground, row, -1)]
            self.assert_same(turned_by(ground, plan, row, back=True), wanted)
            self.assert_same(plain_turning(ground, row, back=True), wanted)

    def test_row_upon_row(self):
        for ground, plan in on_grounds(SMALL, 1):
            n = length_in(plan)
            for at in range(n):
                row = [ground.worth_of(0)] * n
                row[at] = ground.worth_of(1)
                wanted = [ground.root_at(n, at * k) for k in range(n)]
                self.assert_same(turned_by(ground, plan, row), wanted)

    def test_every_order_of_exact_roots(self):
        for order in range(1, 31):
            ground = Roots(order)
            for n in range(1, order + 1):
                if order % n == 0:
                    plans = [plain(n)]
                    if n <= 4:
                        plans.append(short(n))
                    for r in range(2, n):
                        if n % r == 0:
                            plans.append(split(plain(r), plain(n // r)))
                    row = row_on(ground, n)
                    for plan in plans:
                        self.assert_same(turned_by(ground, plan, row), sums_on(ground, row))

    def test_every_short_on_many_primes(self):
        for prime in (2, 3, 5, 7, 13, 37, 61, 9973):
            ground = Rests(prime)
            for n in (1, 2, 3, 4):
                if (prime - 1) % n == 0:
                    for seed in range(5):
                        row = row_on(ground, n, seed)
                        self.assert_same(turned_by(ground, short(n), row), sums_on(ground, row))

    def test_powers_of_many_primes(self):
        many = 0
        for prime in (3, 5, 7, 11, 13, 17, 19, 23, 29, 31, 37, 41, 43, 47, 53, 59):
            # A ground with roots of both the prime and the one below it.
            on = [number for number in range(1 + prime * (prime - 1), 9974, prime * (prime - 1)) if is_prime(number)]
            if on:
                many += 1
                ground = Rests(on[0])
                row = row_on(ground, prime)
                self.assert_same(turned_by(ground, powers(prime, plain(prime - 1)), row), sums_on(ground, row))
        self.assertGreater(many, 12)

    def test_each_stretch_that_may_be(self):
        ground = Rests(2521)
        for n in (2, 3, 4, 5, 6, 7, 8, 9, 10, 12):
            row = row_on(ground, n)
            for m in range(2 * n - 1, 61):
                if 2520 % m == 0:
                    self.assert_same(turned_by(ground, stretch(n, plain(m)), row), sums_on(ground, row))
        # Of just 2 * n - 1, which leaves no place free.
        for ground, n, m in ((Rests(7), 2, 3), (Rests(31), 3, 5), (Rests(29), 4, 7), (Rests(181), 5, 9),
                             (Roots(6), 2, 3), (Roots(15), 3, 5), (Roots(28), 4, 7)):
            row = row_on(ground, n)
            self.assert_same(turned_by(ground, stretch(n, plain(m)), row), sums_on(ground, row))

    def test_stretches_in_stretches(self):
        plan = stretch_deep(2, 3, 6, 12, 24)
        for ground in (Rests(97), Roots(24)):
            row = row_on(ground, 2)
            self.assert_same(turned_by(ground, plan, row), sums_on(ground, row))

    def test_lengths_one_and_sixty(self):
        for ground in (Rests(2), Rests(97), Roots(1), Roots(30)):
            for plan in (plain(1), short(1)):
                row = row_on(ground, 1)
                for back in (False, True):
                    self.assert_same(turned_by(ground, plan, row, back=back), row)
                    self.assert_same(counted(ground, plan, row), (row, (0, 0)))
        ground = Rests(241)
        row = row_on(ground, 60)
        for plan, _ in GREAT[:-1]:
            self.assert_same(turned_by(ground, plan, row), sums_on(ground, row))

    def test_a_deep_split(self):
        plan = split_deep(4)
        row = row_on(Rests(97), 32)
        self.assert_same(turned_by(Rests(97), plan, row), sums_on(Rests(97), row))
        # Longer than rows are said to be.
        plan = split_deep(8)
        row = row_on(Rests(7681), 512)
        turning = turned_by(Rests(7681), plan, row)
        self.assertEqual(turning[0], sum(row) % 7681)
        self.assert_same(turned_by(Rests(7681), plan, turning, back=True), row)


class Refusals(Asking, unittest.TestCase):
    def refused(self, refusal, what, ground, plan, row):
        """By all of them, forth and back where there is a back."""
        for back in (False, True):
            self.assert_refused(refusal, what, turned_by, ground, plan, row, back=back)
            self.assert_refused(refusal, what, counted, ground, plan, row, back=back)
        self.assert_refused(refusal, what, ways_of, ground, plan, row)

    def test_bad_length(self):
        for ground, plan in on_grounds(SMALL, 1):
            n = length_in(plan)
            for other in (n - 1, n + 1, 2 * n, 60):
                if other != n and other > 0:
                    self.refused(BadLength, other, ground, plan, row_on(ground, other))
                    self.refused(BadLength, other, ground, plan, tuple(row_on(ground, other)))

    def test_bad_length_ahead_of_no_root(self):
        for ground in (Rests(7), Roots(7)):
            for plan in (plain(5), split(short(2), short(4)), powers(5, short(4)), stretch(5, plain(9)), short(4)):
                row = row_on(ground, 3)
                self.refused(BadLength, 3, ground, plan, row)

    def test_no_root_of_the_first_such_length(self):
        told = (
            (Rests(7), plain(4), 4),
            (Rests(7), short(4), 4),
            (Rests(7), split(short(2), short(2)), 4),
            (Rests(5), split(plain(3), plain(7)), 3),
            (Rests(5), split(plain(7), plain(3)), 3),
            (Rests(7), parts(short(3), short(4)), 4),
            (Rests(7), parts(short(4), short(3)), 4),
            (Rests(13), parts(short(3), plain(5)), 5),
            (Rests(11), powers(5, short(4)), 4),
            (Rests(5), powers(5, short(4)), 5),
            (Rests(11), stretch(5, plain(9)), 9),
            (Rests(7), stretch(5, plain(9)), 5),
            (Rests(11), stretch(2, stretch(3, plain(7))), 3),
            (Rests(13), stretch(2, stretch(4, plain(7))), 7),
            (Roots(4), split(short(2), short(3)), 3),
            (Roots(12), split(short(4), short(4)), 16),
            (Roots(12), stretch(2, stretch(5, plain(9))), 5),
            (Roots(30), powers(5, short(4)), 4),
            (Roots(24), powers(13, plain(12)), 13),
            (Roots(1), short(2), 2),
            (Rests(2), plain(2), 2),
        )
        for ground, plan, length in told:
            self.refused(NoRoot, length, ground, plan, row_on(ground, length_in(plan)))

    def test_no_share(self):
        for ground, plan in on_grounds(ALL):
            n = length_in(plan)
            if isinstance(ground, Roots) and n > 1:
                row = [ground.worth_of(1)] + [ground.worth_of(0)] * (n - 1)
                self.assert_refused(NoShare, n, turned_by, ground, plan, row, back=True)
                self.assert_refused(NoShare, n, counted, ground, plan, row, back=True)
                self.assert_refused(NoShare, n, plain_turning, ground, row, back=True)
                # Forth nothing is shared that can't be.
                self.assert_same(turned_by(ground, plan, row), [ground.worth_of(1)] * n)

    def test_no_share_where_the_plan_turns_back_within(self):
        told = (
            (Roots(6), powers(3, short(2)), 3),
            (Roots(20), powers(5, short(4)), 5),
            (Roots(24), stretch(4, plain(8)), 4),
            (Roots(12), stretch(3, parts(short(2), short(3))), 3),
            (Roots(12), split(short(2), stretch(2, short(3))), 4),
            (Roots(12), split(powers(3, short(2)), short(2)), 6),
        )
        for ground, plan, n in told:
            row = row_on(ground, n)
            self.assert_refused(NoShare, n, plain_turning, ground, row, back=True)
            for asked in (turned_by, counted):
                self.assert_refused(NoShare, n, asked, ground, plan, row, back=True)

    def test_no_root_ahead_of_no_share(self):
        for plan, length in ((split(short(2), plain(5)), 5), (powers(5, short(4)), 4), (stretch(2, plain(7)), 7)):
            ground = Roots(2) if length != 4 else Roots(5)
            row = [ground.worth_of(1)] * length_in(plan)
            self.assert_refused(NoRoot, length, turned_by, ground, plan, row, back=True)


class Counting(Asking, unittest.TestCase):
    def test_the_documents_own_numbers(self):
        told = (
            (plain(1), (0, 0)), (plain(2), (2, 1)), (plain(5), (20, 16)), (plain(60), (3540, 3481)),
            (short(1), (0, 0)), (short(2), (2, 0)), (short(3), (7, 1)), (short(4), (8, 1)),
            (split(short(2), plain(3)), (2 * 6 + 3 * 2, 2 * 4 + 2)),
            (split(plain(3), short(2)), (3 * 2 + 2 * 6, 2 * 4 + 2)),
            (split(short(4), short(3)), (4 * 7 + 3 * 8, 4 + 3 + 6)),
            (parts(short(3), short(4)), (4 * 7 + 3 * 8, 4 + 3)),
            (powers(5, short(4)), (3 * 8 + 8, 3 + 8)),
            (powers(7, plain(6)), (3 * 30 + 12, 3 * 25 + 12)),
            (stretch(2, short(3)), (21, 3 + 4 + 6)),
            (stretch(5, plain(9)), (3 * 72, 3 * 64 + 10 + 18)),
        )
        for plan, pair in told:
            grounds = [Rests(prime) for prime in (2, 3, 7, 13, 31, 41, 43, 61, 181)]
            fit = [ground for ground in grounds if all((ground.prime - 1) % n == 0 for n in lengths_of(plan))]
            self.assertTrue(fit, plan)
            n = length_in(plan)
            row = row_on(fit[0], n)
            self.assert_same(counted(fit[0], plan, row), (sums_on(fit[0], row), pair))
            turning = sums_on(fit[0], row)
            self.assert_same(counted(fit[0], plan, turning, back=True), (row, (pair[0], pair[1] + n)))

    def test_by_the_list(self):
        for ground, plan in on_grounds(ALL, 1):
            n = length_in(plan)
            row = row_on(ground, n)
            sums, products = steps_by_the_list(plan)
            turning, pair = counted(ground, plan, row)
            self.assert_same(turning, sums_on(ground, row))
            self.assert_same(pair, (sums, products))
            self.assert_same(counted(ground, plan, tuple(turning), back=True), (row, (sums, products + n)))

    def test_by_the_grounds_calls(self):
        for ground, plan in on_grounds(ALL, 1):
            n = length_in(plan)
            row = row_on(ground, n)
            wanted = steps_by_the_list(plan)
            for asked in (turned_by, counted, ways_of):
                watched = counting(ground)
                asked(watched, plan, row)
                self.assertEqual((watched.sums, watched.products), wanted, (asked, plan))
            for asked in (turned_by, counted):
                watched = counting(ground)
                asked(watched, plan, turned_by(ground, plan, row), back=True)
                self.assertEqual((watched.sums, watched.products), (wanted[0], wanted[1] + n), (asked, plan))

    def test_whatever_the_row_is(self):
        for ground, plan in on_grounds(SMALL, 1):
            n = length_in(plan)
            for row in ([ground.worth_of(0)] * n, [ground.worth_of(1)] * n, row_on(ground, n, 3)):
                self.assertEqual(counted(ground, plan, row)[1], steps_by_the_list(plan))


def ways_by_the_list(ground, plan, row):
    """The triples of [10], each turning told plainly."""
    told = []
    word = plan[0]
    n = len(row)
    if word == "split":
        r, m = length_in(plan[1]), length_in(plan[2])
        made = []
        for a in range(r):
            taken = [row[a + r * b] for b in range(m)]
            told += ways_by_the_list(ground, plan[2], taken)
            made.append([ground.product_of(worth, ground.root_at(n, a * b))
                         for b, worth in enumerate(sums_on(ground, taken))])
        for b in range(m):
            told += ways_by_the_list(ground, plan[1], [made[a][b] for a in range(r)])
    elif word == "parts":
        r, m = length_in(plan[1]), length_in(plan[2])
        made = []
        for b in range(m):
            taken = [row[(m * a + r * b) % n] for a in range(r)]
            told += ways_by_the_list(ground, plan[1], taken)
            made.append(sums_on(ground, taken))
        for c in range(r):
            told += ways_by_the_list(ground, plan[2], [made[b][c] for b in range(m)])
    elif word in ("powers", "stretch"):
        if word == "powers":
            g = next(g for g in range(1, n) if len({pow(g, a, n) for a in range(n - 1)}) == n - 1)
            one = [row[pow(g, a, n)] for a in range(n - 1)]
            other = [ground.root_at(n, pow(g, -a, n)) for a in range(n - 1)]
        else:
            one = [ground.worth_of(0)] * length_in(plan[2])
            other = list(one)
            for j in range(n):
                one[n - 1 - j] = ground.product_of(row[j], ground.root_at(n, -(j * (j - 1) // 2)))
            for j in range(2 * n - 1):
                other[j] = ground.root_at(n, j * (j - 1) // 2)
        products = [ground.product_of(x, y) for x, y in zip(sums_on(ground, one), sums_on(ground, other))]
        for taken in (one, other, products):
            told += ways_by_the_list(ground, plan[2], taken)
    return told + [(plan, list(row), sums_on(ground, row))]


class Ways(Asking, unittest.TestCase):
    def test_each_triple_in_the_order_told(self):
        for ground, plan in on_grounds(SMALL, 1):
            row = row_on(ground, length_in(plan))
            wanted = ways_by_the_list(ground, plan, row)
            self.assert_same(ways_of(ground, plan, row), wanted)
            self.assert_same(ways_of(ground, plan, tuple(row)), wanted)
            self.assertEqual(row, row_on(ground, length_in(plan)))

    def test_as_told(self):
        row = [1, 2, 3, 4]
        self.assert_same(ways_of(Rests(5), short(4), row), [(short(4), row, [0, 4, 3, 2])])
        self.assert_same(ways_of(Rests(5), split(short(2), plain(2)), row), [
            (plain(2), [1, 3], [4, 3]), (plain(2), [2, 4], [1, 3]),
            (short(2), [4, 1], [0, 3]), (short(2), [3, 1], [4, 2]),
            (split(short(2), plain(2)), row, [0, 4, 3, 2]),
        ])

    def test_sixty(self):
        ground = Rests(241)
        row = row_on(ground, 60)
        for plan in (parts(plain(5), plain(12)), stretch(60, split(plain(15), plain(16)))):
            told = ways_of(ground, plan, row)
            self.assert_same(told[-1], (plan, row, sums_on(ground, row)))
            self.assertEqual(len(told), {"parts": 18, "stretch": 3 * 32 + 1}[plan[0]])
            for inner, taken, turning in told:
                self.assertEqual(length_in(inner), len(taken))
                self.assertEqual(turning, plain_turning(ground, taken))

    def test_all_rows_are_lists_of_their_own(self):
        for ground, plan in on_grounds(SMALL, 1):
            row = row_on(ground, length_in(plan))
            first = ways_of(ground, plan, row)
            second = ways_of(ground, plan, row)
            lists = [row, first, second]
            for triple in first + second:
                self.assertIs(type(triple), tuple)
                lists += triple[1:]
            self.assertEqual(len({id(part) for part in lists}), len(lists))

    def test_changed_rows_change_no_later_answer(self):
        row = [1, 2, 3, 4]
        plan = split(short(2), short(2))
        told = ways_of(Rests(5), plan, row)
        for _, taken, turning in told:
            taken[0] = turning[0] = "other"
            taken.append("more")
        self.assertEqual(row, [1, 2, 3, 4])
        self.assert_same(ways_of(Rests(5), plan, row), ways_by_the_list(Rests(5), plan, row))


class Calls(Asking, unittest.TestCase):
    def test_by_name(self):
        ground, plan, row = Rests(5), split(short(2), short(2)), [1, 2, 3, 4]
        turning = [0, 4, 3, 2]
        self.assertEqual(turned_by(row=row, plan=plan, ground=ground), turning)
        self.assertEqual(turned_by(back=True, row=turning, plan=plan, ground=ground), row)
        self.assertEqual(counted(row=row, plan=plan, ground=ground), (turning, (8, 1)))
        self.assertEqual(counted(back=True, row=turning, plan=plan, ground=ground), (row, (8, 5)))
        self.assertEqual(ways_of(row=row, plan=plan, ground=ground), ways_of(ground, plan, row))
        self.assert_refused(BadLength, 2, turned_by, ground=ground, plan=plan, row=[1, 2])

    def test_back_by_name_alone(self):
        for asked in (turned_by, counted, ways_of):
            with self.assertRaises(TypeError):
                asked(Rests(5), short(2), [1, 2], True)

    def test_told_lists_are_the_askers_own(self):
        for ground, plan in on_grounds(SMALL, 1):
            row = row_on(ground, length_in(plan))
            self.assert_own(turned_by, ground, plan, row)
            self.assert_own(lambda *told: counted(*told)[0], ground, plan, row)
            self.assert_own(ways_of, ground, plan, row)
            self.assertEqual(row, row_on(ground, length_in(plan)))

    def test_the_row_itself_is_never_told(self):
        for plan in (plain(1), short(1)):
            row = [3]
            for back in (False, True):
                self.assertIsNot(turned_by(Rests(5), plan, row, back=back), row)


if __name__ == "__main__":
    unittest.main()
