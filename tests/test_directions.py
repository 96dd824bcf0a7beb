"""Points [18] and [1] (e)."""

import itertools
import unittest

from asking import Asking
from samples import parts, plain, powers, roots_of, row_on, short, split, stretch, sums_on
from turnsums.directions import into_parts, out_of_parts, plain_all, round_all, round_all_by, turn_all
from turnsums.errors import BadLength, BadOrder, NoRoot, NoShare, NotCoprime
from turnsums.rests import Rests
from turnsums.roots import Roots

GROUNDS = (Rests(2), Rests(7), Rests(61), Rests(97), Rests(241), Roots(1), Roots(4), Roots(6), Roots(12), Roots(30))
SIZES = (
    (1,), (2,), (6,), (12,), (1, 1), (1, 4), (4, 1), (2, 3), (3, 2), (4, 3), (2, 2), (6, 5),
    (1, 1, 1), (2, 1, 3), (1, 2, 2), (2, 2, 1), (2, 3, 4), (4, 2, 3), (3, 2, 2), (3, 4, 5),
)
# Plans of one length, some by other forms; which fit is asked of each ground.
PLANS = {
    1: (plain(1), short(1)),
    2: (plain(2), short(2), stretch(2, short(3)), stretch(2, short(4))),
    3: (plain(3), short(3), powers(3, short(2)), stretch(3, plain(6))),
    4: (plain(4), short(4), split(short(2), short(2))),
    5: (plain(5), powers(5, short(4))),
    6: (plain(6), parts(short(2), short(3)), split(short(3), short(2))),
    12: (plain(12), parts(short(4), short(3)), split(short(3), short(4))),
}


def lengths_in(plan):
    inner = [part for part in plan[1:] if isinstance(part, tuple)]
    own = plan[1] if not isinstance(plan[1], tuple) else lengths_in(plan[1])[0] * lengths_in(plan[2])[0]
    return [own] + [length for part in inner for length in lengths_in(part)]


def fits(ground, sizes):
    return all(roots_of(ground) % size == 0 for size in sizes)


def cases():
    """Each ground with the sizes that fit it."""
    for ground in GROUNDS:
        for sizes in SIZES:
            if fits(ground, sizes):
                yield ground, sizes


def plans_for(ground, sizes, at):
    """A list of plans of these sizes, other ones for another at."""
    told = []
    for place, size in enumerate(sizes):
        fit = [plan for plan in PLANS[size] if fits(ground, lengths_in(plan))]
        told.append(fit[(at + place) % len(fit)])
    return told


def count(sizes):
    n = 1
    for size in sizes:
        n *= size
    return n


def spots(sizes):
    """All (i, j, k), in the order of the row."""
    return list(itertools.product(*[range(size) for size in sizes]))


def sums_all(ground, sizes, row, way=1):
    """The sums in all directions at once, none of them shared."""
    at = dict(zip(spots(sizes), row))
    told = []
    for there in spots(sizes):
        worth = ground.worth_of(0)
        for here in spots(sizes):
            by = ground.worth_of(1)
            for size, one, other in zip(sizes, here, there):
                by = ground.product_of(by, ground.root_at(size, way * one * other))
            worth = ground.sum_of(worth, ground.product_of(at[here], by))
        told.append(worth)
    return told


def round_sums(ground, sizes, one, other):
    at = dict(zip(spots(sizes), one))
    beside = dict(zip(spots(sizes), other))
    told = []
    for there in spots(sizes):
        worth = ground.worth_of(0)
        for here in spots(sizes):
            rest = tuple((k - i) % size for k, i, size in zip(there, here, sizes))
            worth = ground.sum_of(worth, ground.product_of(at[here], beside[rest]))
        told.append(worth)
    return told


def times(ground, row, number):
    return [ground.product_of(worth, ground.worth_of(number)) for worth in row]


class Turning(Asking, unittest.TestCase):
    def test_places(self):
        # At (i, j, k) a root of each direction, turned to one place.
        ground = Rests(241)
        sizes = (3, 4, 5)
        for wanted in ((0, 0, 0), (1, 0, 0), (0, 1, 0), (0, 0, 1), (2, 3, 4)):
            row = []
            for i in range(3):
                for j in range(4):
                    for k in range(5):
                        worth = ground.root_at(3, -i * wanted[0])
                        worth = ground.product_of(worth, ground.root_at(4, -j * wanted[1]))
                        row.append(ground.product_of(worth, ground.root_at(5, -k * wanted[2])))
            told = [0] * 60
            told[(wanted[0] * 4 + wanted[1]) * 5 + wanted[2]] = 60
            self.assert_same(plain_all(ground, sizes, row), told)
            self.assert_same(turn_all(ground, [plain(3), short(4), plain(5)], row), told)

    def test_plainly_forth(self):
        for ground, sizes in cases():
            row = row_on(ground, count(sizes))
            wanted = sums_all(ground, sizes, row)
            self.assert_same(plain_all(ground, sizes, row), wanted)
            self.assert_same(plain_all(ground, sizes, tuple(row), back=False), wanted)

    def test_plainly_back(self):
        for ground, sizes in cases():
            row = row_on(ground, count(sizes))
            turning = sums_all(ground, sizes, row)
            self.assert_same(plain_all(ground, sizes, turning, back=True), row)
            self.assert_same(plain_all(ground, sizes, tuple(turning), back=True), row)
            many = times(ground, row, count(sizes))
            self.assert_same(plain_all(ground, sizes, many, back=True), sums_all(ground, sizes, row, -1))

    def test_one_direction_is_a_turning(self):
        for ground in (Rests(97), Roots(12)):
            for n in (1, 2, 3, 4, 6, 12):
                row = row_on(ground, n)
                self.assert_same(plain_all(ground, (n,), row), sums_on(ground, row))
                self.assert_same(turn_all(ground, [plain(n)], row), sums_on(ground, row))

    def test_by_plans_in_any_order(self):
        for ground, sizes in cases():
            row = row_on(ground, count(sizes))
            wanted = sums_all(ground, sizes, row)
            for at, order in enumerate([()] + list(itertools.permutations(range(len(sizes))))):
                plans = plans_for(ground, sizes, at)
                self.assert_same(turn_all(ground, plans, row, order=order), wanted)
                self.assert_same(turn_all(ground, tuple(plans), tuple(row), order=order, back=False), wanted)
                self.assert_same(turn_all(ground, plans, wanted, back=True, order=order), row)
            self.assert_same(turn_all(ground, plans, row), wanted)
            self.assert_same(turn_all(ground, plans, wanted, back=True), row)

    def test_rising_where_no_order_is_told(self):
        # Only the order tells which share is refused.
        ground = Roots(6)
        row = [ground.worth_of(1)] + [ground.worth_of(0)] * 5
        plans = [short(2), short(3)]
        for order, size in (((), 2), ((0, 1), 2), ((1, 0), 3)):
            self.assert_refused(NoShare, size, turn_all, ground, plans, row, back=True, order=order)
        self.assert_refused(NoShare, 2, turn_all, ground, plans, row, back=True)
        self.assert_refused(NoShare, 2, plain_all, ground, (2, 3), row, back=True)
        self.assert_refused(NoShare, 3, plain_all, ground, (3, 2), row, back=True)


class Shares(Asking, unittest.TestCase):
    def test_the_first_direction_that_can_not_be_shared(self):
        ground = Roots(12)
        plans = [short(2), short(3), short(4)]
        nought, one = ground.worth_of(0), ground.worth_of(1)
        for number, rising, falling in ((1, 2, 4), (2, 3, 4), (6, 4, 4), (12, 4, 2), (4, 3, 3), (8, 3, 3)):
            row = times(ground, [one] + [nought] * 23, number)
            self.assert_refused(NoShare, rising, turn_all, ground, plans, row, back=True)
            self.assert_refused(NoShare, rising, plain_all, ground, (2, 3, 4), row, back=True)
            self.assert_refused(NoShare, falling, turn_all, ground, plans, row, back=True, order=(2, 1, 0))
        row = times(ground, [one] + [nought] * 23, 24)
        self.assert_same(turn_all(ground, plans, row, back=True), [one] * 24)

    def test_a_direction_of_one_is_always_shared(self):
        ground = Roots(4)
        row = [ground.worth_of(1), ground.worth_of(0)]
        self.assert_refused(NoShare, 2, plain_all, ground, (1, 2), row, back=True)
        self.assert_refused(NoShare, 2, turn_all, ground, [short(1), short(2), plain(1)], row, back=True)
        self.assert_same(plain_all(ground, (1, 1), row[:1], back=True), row[:1])

    def test_forth_nothing_is_shared(self):
        ground = Roots(12)
        row = [ground.worth_of(1)] + [ground.worth_of(0)] * 11
        self.assert_same(plain_all(ground, (3, 4), row), [ground.worth_of(1)] * 12)
        self.assert_same(turn_all(ground, [short(3), short(4)], row), [ground.worth_of(1)] * 12)


class Refusals(Asking, unittest.TestCase):
    def test_plainly(self):
        for back in (False, True):
            for ground in (Rests(7), Roots(6)):
                row = row_on(ground, 60)
                self.assert_refused(BadLength, 5, plain_all, ground, (2, 3), row[:5], back=back)
                self.assert_refused(BadLength, 7, plain_all, ground, (2, 3), tuple(row[:7]), back=back)
                self.assert_refused(BadLength, 2, plain_all, ground, (1,), row[:2], back=back)
                # Ahead of a root.
                self.assert_refused(BadLength, 9, plain_all, ground, (4, 5), row[:9], back=back)
                self.assert_refused(NoRoot, 4, plain_all, ground, (4, 5), row[:20], back=back)
                self.assert_refused(NoRoot, 5, plain_all, ground, (3, 5, 4), row, back=back)
                self.assert_refused(NoRoot, 4, plain_all, ground, (1, 2, 4), row[:8], back=back)
                self.assert_refused(NoRoot, 12, plain_all, ground, (12,), row[:12], back=back)

    def test_by_plans(self):
        for back in (False, True):
            for ground in (Rests(7), Roots(6)):
                row = row_on(ground, 60)
                plans = [short(2), short(4), plain(5)]
                self.assert_refused(BadLength, 39, turn_all, ground, plans, row[:39], back=back, order=(0, 0, 1))
                self.assert_refused(BadLength, 2, turn_all, ground, plans, row[:2], back=back)
                self.assert_refused(BadOrder, (0, 0, 1), turn_all, ground, plans, row[:40], back=back, order=(0, 0, 1))
                for order in ((), (0, 1, 2), (2, 1, 0), (1, 2, 0)):
                    self.assert_refused(NoRoot, 4, turn_all, ground, plans, row[:40], back=back, order=order)
                    # The first plan of the list; of it the first length.
                    mixed = [parts(short(3), plain(5)), short(4), short(1)]
                    self.assert_refused(NoRoot, 5, turn_all, ground, mixed, row, back=back, order=order)
                self.assert_refused(NoRoot, 5, turn_all, ground, [stretch(3, plain(5))], row[:3], back=back)
                self.assert_refused(NoRoot, 4, turn_all, ground, [short(3), split(short(2), short(2))], row[:12])
        self.assert_refused(NoRoot, 4, turn_all, Rests(11), (powers(5, short(4)), short(2)), [0] * 10)

    def test_bad_orders(self):
        row = row_on(Rests(97), 24)
        plans = [short(2), short(3), short(4)]
        for order in ((0,), (0, 1), (0, 1, 1), (0, 1, 3), (1, 2, 3), (-1, 0, 1), (0, 1, 2, 3), (0, 1, 2, 0), (5,)):
            self.assert_refused(BadOrder, order, turn_all, Rests(97), plans, row, order=order)
            self.assert_refused(BadOrder, order, turn_all, Rests(97), plans, row, back=True, order=order)
        for order in ((1,), (0, 0), (0, 1), (-1,)):
            self.assert_refused(BadOrder, order, turn_all, Rests(97), [short(4)], row[:4], order=order)
        for order in ((0,), (1,), (1, 1), (2, 1), (0, 1, 2), (0, 2)):
            self.assert_refused(BadOrder, order, turn_all, Rests(97), [short(3), short(4)], row[:12], order=order)

    def test_round(self):
        row = row_on(Rests(7), 60)
        plans = [short(4), plain(5)]
        self.assert_refused(BadLength, 19, round_all, Rests(7), (4, 5), row[:19], row[:18])
        self.assert_refused(BadLength, 21, round_all, Rests(7), (4, 5), row[:20], row[:21])
        self.assert_refused(BadLength, 5, round_all, Rests(7), (4,), (0,) * 5, (0,) * 4)
        self.assert_refused(BadLength, 19, round_all_by, Rests(7), plans, row[:19], row[:18])
        # Both ahead of a root.
        self.assert_refused(BadLength, 21, round_all_by, Rests(7), plans, row[:20], row[:21])
        self.assert_refused(NoRoot, 4, round_all_by, Rests(7), plans, row[:20], row[:20])
        self.assert_refused(NoRoot, 5, round_all_by, Rests(7), plans[::-1], row[:20], row[:20])
        self.assert_refused(NoRoot, 4, round_all_by, Roots(6), [short(3), short(4)], [()] * 12, [()] * 12)

    def test_parts(self):
        for asked in (into_parts, out_of_parts):
            for n, first, second in ((5, 2, 3), (7, 2, 3), (3, 2, 2), (11, 3, 4), (1, 1, 2)):
                self.assert_refused(BadLength, n, asked, list(range(n)), first, second)
                self.assert_refused(BadLength, n, asked, tuple(range(n)), first, second)
            for first, second in ((2, 2), (2, 4), (4, 2), (6, 9), (3, 3), (6, 10)):
                self.assert_refused(NotCoprime, 1, asked, list(range(first * second)), first, second)


class Rounds(Asking, unittest.TestCase):
    def test_plainly_root_or_none(self):
        for ground in GROUNDS:
            for sizes in SIZES:
                n = count(sizes)
                one, other = row_on(ground, n), row_on(ground, n, 3)
                if n > 24 and ground not in (Rests(2), Rests(241), Roots(1)):
                    continue
                wanted = round_sums(ground, sizes, one, other)
                self.assert_same(round_all(ground, sizes, one, other), wanted)
                self.assert_same(round_all(ground, sizes, tuple(other), tuple(one)), wanted)

    def test_by_plans(self):
        for ground, sizes in cases():
            n = count(sizes)
            one, other = row_on(ground, n), row_on(ground, n, 3)
            wanted = round_sums(ground, sizes, one, other)
            for at in range(3):
                plans = plans_for(ground, sizes, at)
                self.assert_same(round_all_by(ground, plans, one, other), wanted)
                self.assert_same(round_all_by(ground, tuple(plans), tuple(one), tuple(other)), wanted)

    def test_as_written_out(self):
        self.assert_same(round_all(Rests(97), (2, 2), [1, 2, 3, 4], [5, 6, 7, 8]), [70, 68, 62, 60])
        self.assert_same(round_all(Rests(97), (4,), [1, 2, 3, 4], [5, 6, 7, 8]), [66, 68, 66, 60])
        self.assert_same(round_all(Rests(97), (1,), [9], [8]), [72])


class Parts(Asking, unittest.TestCase):
    def test_the_documents_places(self):
        for first, second in ((1, 1), (1, 5), (5, 1), (2, 3), (3, 2), (3, 4), (4, 3), (4, 15), (7, 8), (1, 60)):
            n = first * second
            row = [f"w{place}" for place in range(n)]
            told = [row[(second * a + first * b) % n] for a in range(first) for b in range(second)]
            self.assert_same(into_parts(row, first, second), told)
            self.assert_same(into_parts(tuple(row), first, second), told)
            wanted = [None] * n
            for c in range(first):
                for d in range(second):
                    place = [k for k in range(n) if k % first == c and k % second == d][0]
                    wanted[place] = row[c * second + d]
            self.assert_same(out_of_parts(row, first, second), wanted)
            self.assert_same(out_of_parts(tuple(row), first, second), wanted)

    def test_as_written_out(self):
        self.assert_same(into_parts([0, 1, 2, 3, 4, 5], 2, 3), [0, 2, 4, 3, 5, 1])
        self.assert_same(out_of_parts([0, 1, 2, 3, 4, 5], 2, 3), [0, 4, 2, 3, 1, 5])

    def test_each_is_a_way_of_its_own(self):
        # One's places are by multiples, the other's by rests: one behind the other the worths stand at multiples.
        for first, second in ((2, 3), (3, 4), (4, 5)):
            row = list(range(first * second))
            told = out_of_parts(into_parts(row, first, second), first, second)
            for k in row:
                self.assertEqual(told[k], (second * (k % first) + first * (k % second)) % len(row))

    def test_two_factors_are_two_directions(self):
        for ground in (Rests(61), Rests(241), Roots(12), Roots(30)):
            for first, second in ((1, 2), (2, 3), (3, 4), (4, 3), (2, 15), (5, 6), (5, 12)):
                n = first * second
                if roots_of(ground) % n == 0:
                    row = row_on(ground, n)
                    apart = into_parts(row, first, second)
                    wanted = sums_on(ground, row)
                    self.assert_same(out_of_parts(plain_all(ground, (first, second), apart), first, second), wanted)
                    for order in ((0, 1), (1, 0)):
                        told = turn_all(ground, [plain(first), plain(second)], apart, order=order)
                        self.assert_same(out_of_parts(told, first, second), wanted)


class Calls(Asking, unittest.TestCase):
    def test_by_name(self):
        ground = Rests(97)
        row = [1, 2, 3, 4, 5, 6]
        plans = [short(2), short(3)]
        self.assertEqual(plain_all(back=True, row=plain_all(row=row, sizes=(2, 3), ground=ground), sizes=(2, 3),
                                   ground=ground), row)
        turning = turn_all(order=(1, 0), row=row, plans=plans, ground=ground)
        self.assertEqual(turning, plain_all(ground, (2, 3), row))
        self.assertEqual(turn_all(order=(1, 0), back=True, row=turning, plans=plans, ground=ground), row)
        wanted = round_all(other=row, one=row, sizes=(2, 3), ground=ground)
        self.assertEqual(round_all_by(other=row, one=row, plans=plans, ground=ground), wanted)
        self.assertEqual(into_parts(second=3, first=2, row=row), [1, 3, 5, 4, 6, 2])
        self.assertEqual(out_of_parts(second=3, first=2, row=row), [1, 5, 3, 4, 2, 6])

    def test_back_and_order_by_name_alone(self):
        with self.assertRaises(TypeError):
            plain_all(Rests(97), (1,), [1], True)
        with self.assertRaises(TypeError):
            turn_all(Rests(97), [short(1)], [1], True)

    def test_what_is_handed_in_stays(self):
        ground = Rests(97)
        for sizes, plans in (((2, 3), [short(2), short(3)]), ((1, 6), [short(1), plain(6)])):
            row, other, kept = [1, 2, 3, 4, 5, 6], [6, 5, 4, 3, 2, 1], list(plans)
            told = (
                (plain_all, ground, sizes, row), (turn_all, ground, plans, row), (round_all, ground, sizes, row, other),
                (round_all_by, ground, plans, row, other), (into_parts, row, 2, 3), (out_of_parts, row, 2, 3),
            )
            for asked in told:
                self.assert_own(*asked)
                self.assertEqual((row, other, plans), ([1, 2, 3, 4, 5, 6], [6, 5, 4, 3, 2, 1], kept))
        for asked in ((plain_all, ground, (1, 1), [5]), (turn_all, ground, [short(1)], [5]), (into_parts, [5], 1, 1)):
            self.assert_own(*asked)
            self.assertEqual(asked[-1] if asked[0] is not into_parts else asked[1], [5])


if __name__ == "__main__":
    unittest.main()
