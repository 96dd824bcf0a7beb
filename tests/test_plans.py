"""Point [8]."""

import unittest

from asking import OTHER_THINGS, Asking
from turnsums.numbers import is_prime
from turnsums.plans import is_plan, plan_depth, plan_fits, plan_length, plan_lengths
from turnsums.rests import Rests
from turnsums.roots import Roots


def plain(n):
    return ("plain", n)


def short(n):
    return ("short", n)


# Each with its length, the lengths in it, and its depth.
PLANS = (
    (plain(1), 1, [1], 0),
    (plain(60), 60, [60], 0),
    (short(1), 1, [1], 0),
    (short(4), 4, [4], 0),
    (("split", short(2), plain(3)), 6, [2, 3, 6], 1),
    (("split", short(4), plain(4)), 16, [4, 16], 1),
    (("split", plain(6), plain(10)), 60, [6, 10, 60], 1),
    (("parts", short(3), short(4)), 12, [3, 4, 12], 1),
    (("parts", plain(5), plain(12)), 60, [5, 12, 60], 1),
    (("powers", 3, short(2)), 3, [2, 3], 1),
    (("powers", 5, short(4)), 5, [4, 5], 1),
    (("powers", 59, plain(58)), 59, [58, 59], 1),
    (("stretch", 2, short(3)), 2, [2, 3], 1),
    (("stretch", 2, short(4)), 2, [2, 4], 1),
    (("stretch", 5, plain(9)), 5, [5, 9], 1),
    (("stretch", 60, plain(240)), 60, [60, 240], 1),
    (("stretch", 2, ("stretch", 5, plain(9))), 2, [2, 5, 9], 2),
    (("split", ("powers", 3, short(2)), ("powers", 5, ("split", short(2), short(2)))), 15, [2, 3, 4, 5, 15], 3),
    (("parts", ("stretch", 3, ("parts", plain(2), plain(3))), short(4)), 12, [2, 3, 4, 6, 12], 3),
    (("parts", short(2), ("split", plain(3), ("powers", 3, plain(2)))), 18, [2, 3, 9, 18], 3),
    (("powers", 7, ("parts", short(2), short(3))), 7, [2, 3, 6, 7], 2),
)


def stretched(levels):
    """So many deep: stretches, each in one of about half its length."""
    plan = plain(2 ** levels + 1)
    for level in range(levels - 1, -1, -1):
        plan = ("stretch", 2 ** level + 1, plan)
    return plan


def paired(levels):
    """So many deep, of length 2 to that and 1 more."""
    plan = short(2)
    for _ in range(levels):
        plan = ("split", short(2), plan)
    return plan


class Plans(Asking, unittest.TestCase):
    def test_all_forms(self):
        for plan, length, lengths, depth in PLANS:
            self.assertIs(is_plan(plan), True, plan)
            self.assert_same(plan_length(plan), length)
            self.assert_same(plan_lengths(plan), lengths)
            self.assert_same(plan_depth(plan), depth)

    def test_nine_deep(self):
        for levels in range(1, 10):
            self.assertIs(is_plan(paired(levels)), True)
            self.assert_same(plan_length(paired(levels)), 2 ** (levels + 1))
            self.assert_same(plan_lengths(paired(levels)), [2 ** power for power in range(1, levels + 2)])
            self.assert_same(plan_depth(paired(levels)), levels)
            self.assertIs(is_plan(stretched(levels)), True)
            self.assert_same(plan_length(stretched(levels)), 2)
            self.assert_same(plan_lengths(stretched(levels)), [2 ** level + 1 for level in range(levels + 1)])
            self.assert_same(plan_depth(stretched(levels)), levels)

    def test_the_deeper_one_of_two(self):
        self.assertEqual(plan_depth(("split", paired(8), short(2))), 9)
        self.assertEqual(plan_depth(("split", short(2), paired(8))), 9)
        self.assertEqual(plan_depth(("parts", plain(3), paired(3))), 4)

    def test_deep_inmost_part_otherwise(self):
        for wrong in (plain(0), short(5), plain(True), ["plain", 2], ("plain", 1), None):
            thing = wrong
            for _ in range(9):
                thing = ("split", short(2), thing)
                self.assertIs(is_plan(thing), False, thing)
            thing = wrong
            for _ in range(9):
                thing = ("parts", thing, short(3))
                self.assertIs(is_plan(thing), False, thing)

    def test_told_lists_are_the_askers_own(self):
        self.assert_own(plan_lengths, PLANS[7][0])

    def test_by_name(self):
        plan = ("parts", short(3), short(4))
        self.assertIs(is_plan(thing=plan), True)
        self.assertEqual(plan_length(plan=plan), 12)
        self.assertEqual(plan_lengths(plan=plan), [3, 4, 12])
        self.assertEqual(plan_depth(plan=plan), 1)
        self.assertIs(plan_fits(plan=plan, ground=Rests(13)), True)


class NoPlans(Asking, unittest.TestCase):
    def assert_none(self, *things):
        for thing in things:
            self.assertIs(is_plan(thing), False, thing)

    def assert_told(self, thing, wanted):
        self.assertIs(is_plan(thing), wanted, thing)

    def test_other_things(self):
        self.assert_none(*OTHER_THINGS, 0, 1, 5, -1, 10 ** 6, "plain", "p5", "short", ("plain",), ("split",))
        self.assert_none(("split", plain(2)), ("powers", 5), ("stretch", 2), (plain(2),), [plain(2)])
        self.assert_none((plain(2), plain(3)), (plain(2), plain(3), "split"), ((), (), ()), ([], [], []))
        self.assert_none((5, "plain"), (None, 5), (["plain"], 5), ("", 5), ("PLAIN", 5), ("plain ", 5), (1, 1), (True, 1))

    def test_plain(self):
        for n in range(-3, 70):
            self.assert_told(plain(n), n >= 1)
        self.assert_told(plain(10 ** 6), True)
        self.assert_none(plain(None), plain("5"), plain([5]), plain((5,)), plain(True), plain(False), plain(plain(5)))
        self.assert_none(("plain", 5, 5), ("plain", 5, plain(4)), ("plain", plain(4), 5), ["plain", 5])
        self.assert_none(("plain", plain(2), plain(3)))

    def test_short(self):
        for n in range(-3, 70):
            self.assert_told(short(n), n in (1, 2, 3, 4))
        self.assert_none(short(True), short(None), short("2"), short((2,)), ["short", 2], ("short", 2, 2))
        self.assert_none(("short", 3, short(2)), ("short", short(2), short(2)))

    def test_pairs_of_small_lengths(self):
        for r in range(1, 16):
            for m in range(1, 16):
                coprime = not any(r % d == 0 and m % d == 0 for d in range(2, 16))
                self.assert_told(("split", plain(r), plain(m)), r > 1 and m > 1)
                self.assert_told(("parts", plain(r), plain(m)), r > 1 and m > 1 and coprime)

    def test_pairs_with_parts_otherwise(self):
        for word in ("split", "parts"):
            self.assertIs(is_plan((word, plain(3), plain(4))), True)
            for wrong in (*OTHER_THINGS, 3, ["plain", 3], ("plain", True), ("plain", "3"), ("pain", 3), plain(1), plain(-5)):
                self.assert_none((word, wrong, plain(4)), (word, plain(4), wrong), (word, wrong, wrong))
            self.assert_none([word, plain(3), plain(4)], (word, plain(3), plain(4), plain(5)), (word, plain(3)))
            self.assert_none((word, 3, plain(4)), (word, plain(3), 4), (word, 3, 4), (word, plain(12)))
        self.assert_none(("parts", ("split", plain(2), plain(3)), ("split", plain(5), plain(2))))
        self.assert_none(("parts", plain(6), plain(9)), ("parts", plain(4), plain(4)))
        self.assertIs(is_plan(("parts", ("split", plain(2), plain(2)), ("split", plain(3), plain(3)))), True)

    def test_powers(self):
        for n in range(-2, 62):
            for m in (n - 2, n - 1, n, n + 1):
                self.assert_told(("powers", n, plain(m)), n >= 3 and is_prime(n) and m == n - 1)
        self.assert_none(("powers", 2, plain(1)), ("powers", 2, short(1)), ("powers", 9, plain(8)))
        self.assert_told(("powers", 999983, plain(999982)), True)
        self.assert_none(("powers", 999981, plain(999980)))
        for wrong in (*OTHER_THINGS, "5", [5], (5,), plain(5), 5.0):
            self.assert_none(("powers", wrong, plain(4)))
        for wrong in (*OTHER_THINGS, 4, ["plain", 4], ("plain", "4"), ("split", plain(2), 2), ("short", 4, 4)):
            self.assert_none(("powers", 5, wrong))
        self.assert_none(("powers", plain(4), 5), ["powers", 5, plain(4)], ("powers", 5, plain(4), plain(4)))
        self.assert_none(("powers", 5, 5, plain(4)), ("powers", plain(5), plain(4)))
        self.assert_told(("powers", 5, ("split", short(2), short(2))), True)
        self.assert_none(("powers", 5, ("parts", short(2), short(2))), ("powers", 5, ("split", short(2), short(3))))

    def test_stretch(self):
        for n in range(-2, 12):
            for m in range(1, 30):
                self.assert_told(("stretch", n, plain(m)), n >= 2 and m >= 2 * n - 1)
        self.assert_told(("stretch", 60, plain(119)), True)
        self.assert_none(("stretch", 60, plain(118)), ("stretch", 1, plain(1)), ("stretch", 1, plain(9)))
        self.assert_none(("stretch", 0, plain(9)), ("stretch", -5, plain(9)))
        for wrong in (*OTHER_THINGS, "5", [5], (5,), plain(5), 5.0):
            self.assert_none(("stretch", wrong, plain(40)))
        for wrong in (*OTHER_THINGS, 9, ["plain", 9], ("plain", "9"), ("split", plain(3), 3)):
            self.assert_none(("stretch", 5, wrong))
        self.assert_none(("stretch", plain(9), 5), ["stretch", 5, plain(9)], ("stretch", 5, plain(9), plain(9)))

    def test_words_exchanged(self):
        self.assert_none(("split", 5, plain(4)), ("parts", 5, plain(4)), ("plain", 5, plain(4)), ("short", 3, plain(2)))
        self.assert_none(("powers", plain(2), plain(3)), ("stretch", plain(2), plain(3)))
        self.assert_none(("powers", 5), ("stretch", 5), ("split", 4), ("parts", 4))
        self.assert_none(("power", 5, plain(4)), ("Split", plain(2), plain(3)), ("", plain(2), plain(3)))
        self.assert_none((None, plain(2), plain(3)), (["split"], plain(2), plain(3)), (("split",), plain(2), plain(3)))
        self.assert_none((None, 5, plain(4)), (["powers"], 5, plain(4)), (True, 2, plain(3)))

    def test_lists_for_tuples_at_any_depth(self):
        def exchanged(plan):
            yield list(plan)
            for at, part in enumerate(plan):
                if isinstance(part, tuple):
                    for wrong in exchanged(part):
                        yield plan[:at] + (wrong,) + plan[at + 1:]
        for plan, *_ in PLANS:
            for wrong in exchanged(plan):
                self.assert_none(wrong)

    def test_any_one_part_otherwise(self):
        def exchanged(plan):
            for at, part in enumerate(plan):
                for wrong in (None, True, "", "plain5", [], ()):
                    yield plan[:at] + (wrong,) + plan[at + 1:]
                if isinstance(part, tuple):
                    for wrong in exchanged(part):
                        yield plan[:at] + (wrong,) + plan[at + 1:]
            yield plan + (1,)
            yield plan[:-1]
        for plan, *_ in PLANS:
            for wrong in exchanged(plan):
                self.assert_none(wrong)

    def test_the_thing_stays_as_it_was(self):
        thing = ["split", ["plain", 2], ["plain", 3]]
        is_plan(thing)
        self.assertEqual(thing, ["split", ["plain", 2], ["plain", 3]])

    def test_twelve_deep(self):
        thing = ["plain", 5]
        for _ in range(11):
            thing = [thing, (thing, "split")]
        self.assert_none(thing, tuple(thing))


class Fitting(unittest.TestCase):
    def test_all_lengths_have_a_root(self):
        for ground, size in [(Rests(prime), prime - 1) for prime in (2, 13, 61, 97, 241)] + [
                (Roots(order), order) for order in range(1, 31)]:
            for plan, _, lengths, _ in PLANS:
                wanted = all(size % length == 0 for length in lengths)
                self.assertIs(plan_fits(ground, plan), wanted, (ground, plan))

    def test_one_inmost_length_lacks(self):
        stretch = ("stretch", 2, ("split", short(2), ("stretch", 2, plain(3))))
        self.assertIs(plan_fits(Rests(13), stretch), True)
        self.assertIs(plan_fits(Rests(5), stretch), False)
        self.assertIs(plan_fits(Roots(12), stretch), True)
        self.assertIs(plan_fits(Roots(4), stretch), False)
        powers = ("split", short(2), ("powers", 7, ("split", short(2), short(3))))
        self.assertIs(plan_fits(Rests(43), powers), True)
        self.assertIs(plan_fits(Rests(29), powers), False)
        self.assertIs(plan_fits(Roots(14), powers), False)

    def test_only_the_outmost_length_lacks(self):
        self.assertIs(plan_fits(Rests(7), ("split", short(2), short(2))), False)
        self.assertIs(plan_fits(Roots(2), ("split", short(2), short(2))), False)
        self.assertIs(plan_fits(Rests(5), ("powers", 5, short(4))), False)


if __name__ == "__main__":
    unittest.main()
