"""Points [13], papers, and [1] (b)."""

import unittest

from asking import OTHER_THINGS, Asking
from samples import length_in, parts, plain, plans_by_the_rules, roots_of, short, steps_by_the_list
from turnsums.choosing import all_plans, best_plan
from turnsums.errors import NoRoot
from turnsums.papers import least_paper, shows_least
from turnsums.rests import Rests
from turnsums.roots import Roots

GROUNDS = (Rests(2), Rests(7), Rests(13), Rests(31), Rests(97), Rests(241), Roots(1), Roots(6), Roots(15), Roots(24))

TABLES = ((1, 3), (0, 1), (1, 0), (0, 0), (1000, 7))


def asked(lengths=range(1, 61)):
    for ground in GROUNDS:
        for length in lengths:
            if roots_of(ground) % length == 0:
                for with_stretch in (True, False):
                    yield ground, length, with_stretch


def price(sums, products, table):
    return sums * table[0] + products * table[1]


def costs_by_the_rules(ground, n, s, table, bounds):
    """What each way of [12] costs with the bounds of the PLANs in it, None where one isn't there."""
    def with_bounds(own, *inner):
        if all((length, with_stretch) in bounds for _, length, with_stretch in inner):
            return own + sum(times * bounds[length, with_stretch] for times, length, with_stretch in inner)
        return None
    size = roots_of(ground)
    told = [price(n * (n - 1), (n - 1) * (n - 1), table)]
    if n <= 4:
        told.append(price(*steps_by_the_list(short(n)), table))
    for r in range(2, n):
        if n % r == 0:
            m = n // r
            told.append(with_bounds(price(0, (r - 1) * (m - 1), table), (m, r, s), (r, m, s)))
            if not [d for d in range(2, r + 1) if r % d == 0 == m % d]:
                told.append(with_bounds(0, (m, r, s), (r, m, s)))
    if n >= 3 and all(n % d for d in range(2, n)) and size % (n - 1) == 0:
        told.append(with_bounds(price(2 * (n - 1), 2 * (n - 1), table), (3, n - 1, s)))
    if s and n >= 2:
        for m in range(2 * n - 1, 4 * n + 1):
            if size % m == 0:
                told.append(with_bounds(price(0, 2 * n + 2 * m, table), (3, m, False)))
    return told


def shown_by_the_words(ground, plan, paper, table, with_stretch):
    """Whether a list of bounds, all of its kinds, shows it."""
    bounds = {(n, s): c for n, s, c in paper}
    if len(bounds) < len(paper):
        return False
    if bounds.get((length_in(plan), with_stretch)) != price(*steps_by_the_list(plan), table):
        return False
    for (n, s), c in bounds.items():
        for cost in costs_by_the_rules(ground, n, s, table, bounds):
            if cost is None or c > cost:
                return False
    return True


class Papers(Asking, unittest.TestCase):
    def test_taken_with_the_best_plan(self):
        for ground, length, with_stretch in asked():
            for table in TABLES:
                plan, cost = best_plan(ground, length, table=table, stretch=with_stretch)
                paper = least_paper(ground, length, table=table, stretch=with_stretch)
                self.assertIs(type(paper), list)
                for bound in paper:
                    self.assertIs(type(bound), tuple)
                    self.assertEqual([type(part) for part in bound], [int, bool, int])
                self.assertIn((length, with_stretch, cost), paper)
                self.assertTrue(shown_by_the_words(ground, plan, paper, table, with_stretch))
                self.assertIs(shows_least(ground, plan, paper, table=table, stretch=with_stretch), True)

    def test_left_out(self):
        for ground, length, with_stretch in asked():
            if with_stretch:
                plan = best_plan(ground, length)[0]
                self.assertIs(shows_least(ground, plan, least_paper(ground, length)), True)

    def test_another_plan_of_the_same_cost_is_taken(self):
        paper = least_paper(Rests(97), 1)
        self.assertIs(shows_least(Rests(97), plain(1), paper), True)
        self.assertIs(shows_least(Rests(97), short(1), paper), True)
        paper = least_paper(Rests(97), 6)
        self.assertIs(shows_least(Rests(97), parts(short(2), short(3)), paper), True)
        self.assertIs(shows_least(Rests(97), parts(short(3), short(2)), paper), True)

    def test_no_root(self):
        for ground in (Rests(2), Rests(97), Roots(1), Roots(12)):
            for length in range(1, 61):
                if roots_of(ground) % length:
                    self.assert_refused(NoRoot, length, least_paper, ground, length)
                    self.assert_refused(NoRoot, length, least_paper, ground, length, table=(1, 1), stretch=False)


class Shown(Asking, unittest.TestCase):
    def test_a_plan_that_costs_more(self):
        for ground, length, with_stretch in asked((1, 2, 3, 4, 5, 6, 8, 12)):
            best = best_plan(ground, length, stretch=with_stretch)[1]
            paper = least_paper(ground, length, stretch=with_stretch)
            for plan, _ in zip(plans_by_the_rules(ground, length, with_stretch), range(60)):
                cost = price(*steps_by_the_list(plan), (1, 3))
                self.assertIs(shows_least(ground, plan, paper, stretch=with_stretch), cost == best)
                # Nor with its own cost in the place of the least.
                changed = [bound for bound in paper if bound[:2] != (length, with_stretch)]
                changed.append((length, with_stretch, cost))
                self.assertIs(shows_least(ground, plan, changed, stretch=with_stretch), cost == best)

    def test_one_bound_out(self):
        for ground, length, with_stretch in asked((1, 2, 3, 5, 6, 12, 24)):
            plan = best_plan(ground, length, stretch=with_stretch)[0]
            paper = least_paper(ground, length, stretch=with_stretch)
            for at in range(len(paper)):
                needed = paper[:at] + paper[at + 1:]
                wanted = shown_by_the_words(ground, plan, needed, (1, 3), with_stretch)
                self.assertIs(shows_least(ground, plan, needed, stretch=with_stretch), wanted)
            lone = [bound for bound in paper if bound[:2] != (length, with_stretch)]
            self.assertIs(shows_least(ground, plan, lone, stretch=with_stretch), False)
        self.assertIs(shows_least(Rests(97), best_plan(Rests(97), 6)[0], []), False)

    def test_only_what_is_needed_may_not_be_out(self):
        # Of 4 without stretch 2 is needed, and 2 needs nothing.
        ground = Rests(5)
        self.assertIs(shows_least(ground, short(4), [(4, False, 11), (2, False, 2)], stretch=False), True)
        self.assertIs(shows_least(ground, short(4), [(2, False, 2), (4, False, 11)], stretch=False), True)
        self.assertIs(shows_least(ground, short(4), [(4, False, 11)], stretch=False), False)
        self.assertIs(shows_least(ground, short(4), [(4, False, 11), (2, True, 2)], stretch=False), False)
        self.assertIs(shows_least(ground, short(2), [(2, False, 2)], stretch=False), True)
        # With stretch 2 needs 4 without.
        self.assertIs(shows_least(ground, short(2), [(2, True, 2)]), False)
        self.assertIs(shows_least(ground, short(2), [(2, True, 2), (4, True, 11)]), False)
        self.assertIs(shows_least(ground, short(2), [(2, True, 2), (4, False, 11)]), False)
        self.assertIs(shows_least(ground, short(2), [(2, True, 2), (4, False, 11), (2, False, 2)]), True)
        self.assertIs(shows_least(ground, short(2), [(2, True, 2), (4, False, 11), (2, False, 2)], stretch=False),
                      True)

    def test_one_bound_otherwise(self):
        for ground, length, with_stretch in asked((1, 2, 3, 5, 6, 12, 24)):
            for table in ((1, 3), (1, 0)):
                plan = best_plan(ground, length, table=table, stretch=with_stretch)[0]
                paper = least_paper(ground, length, table=table, stretch=with_stretch)
                for at, (n, s, c) in enumerate(paper):
                    for cost in (c + 1, c - 1, 0, c + 1000, c - 20):
                        changed = paper[:at] + [(n, s, cost)] + paper[at + 1:]
                        wanted = cost >= 0 and shown_by_the_words(ground, plan, changed, table, with_stretch)
                        self.assertIs(
                            shows_least(ground, plan, changed, table=table, stretch=with_stretch), wanted, changed)

    def test_one_greater_by_one(self):
        for ground, length, with_stretch in asked():
            plan = best_plan(ground, length, stretch=with_stretch)[0]
            paper = least_paper(ground, length, stretch=with_stretch)
            for at, (n, s, c) in enumerate(paper):
                bounds = {bound[:2]: bound[2] for bound in paper}
                changed = paper[:at] + [(n, s, c + 1)] + paper[at + 1:]
                if c == min(costs_by_the_rules(ground, n, s, (1, 3), bounds)):
                    self.assertIs(shows_least(ground, plan, changed, stretch=with_stretch), False)

    def test_two_of_one_length_and_stretch(self):
        for ground, length, with_stretch in asked((1, 2, 6, 12)):
            plan = best_plan(ground, length, stretch=with_stretch)[0]
            paper = least_paper(ground, length, stretch=with_stretch)
            for at, (n, s, c) in enumerate(paper):
                for more in ((n, s, c), (n, s, 0), (n, s, c + 1)):
                    self.assertIs(shows_least(ground, plan, paper + [more], stretch=with_stretch), False)
                    self.assertIs(shows_least(ground, plan, [more] + paper, stretch=with_stretch), False)

    def test_any_order(self):
        for ground, length, with_stretch in asked((6, 12, 24)):
            plan = best_plan(ground, length, stretch=with_stretch)[0]
            paper = least_paper(ground, length, stretch=with_stretch)
            for changed in (paper[::-1], sorted(paper), paper[1:] + paper[:1]):
                self.assertIs(shows_least(ground, plan, changed, stretch=with_stretch), True)

    def test_further_bounds(self):
        ground = Rests(97)
        plan = parts(short(2), short(3))
        paper = least_paper(ground, 6, stretch=False)
        self.assertIs(shows_least(ground, plan, paper, stretch=False), True)
        # 12 needs 4 too; a bound may be less than the least cost.
        more = [(4, False, 11), (12, False, 73)]
        self.assertIs(shows_least(ground, plan, paper + more, stretch=False), True)
        self.assertIs(shows_least(ground, plan, paper + [(4, False, 11)], stretch=False), True)
        self.assertIs(shows_least(ground, plan, paper + [(4, False, 12)], stretch=False), False)
        self.assertIs(shows_least(ground, plan, paper + [(4, False, 0)], stretch=False), True)
        self.assertIs(shows_least(ground, plan, paper + [(4, False, 11), (12, False, 74)], stretch=False), False)
        self.assertIs(shows_least(ground, plan, paper + [(12, False, 73)], stretch=False), False)
        self.assertIs(shows_least(ground, plan, paper + [(1, True, 0), (1, False, 0)], stretch=False), True)
        self.assertIs(shows_least(ground, plan, paper + [(1, True, 1)], stretch=False), False)
        # Those of the other stretch are held to its own rules.
        wide = least_paper(ground, 6)
        self.assertIs(shows_least(ground, plan, wide, stretch=False), (6, False, 26) in wide)
        both = wide + [bound for bound in least_paper(ground, 48, stretch=False) if bound not in wide]
        self.assertIs(shows_least(ground, plan, both, stretch=False), True)
        self.assertIs(shows_least(ground, plan, both, stretch=True), True)

    def test_bounds_beyond_the_lengths_of_plans(self):
        ground = Rests(97)
        paper = least_paper(ground, 96, stretch=False)
        self.assertIs(shows_least(ground, parts(short(2), short(3)), paper, stretch=False), True)
        self.assertIs(shows_least(ground, short(1), [(1, False, 0), (96, True, 0)], stretch=False), False)
        self.assertIs(shows_least(ground, short(1), [(1, False, 0), (96, False, 0)], stretch=False), False)
        self.assertIs(shows_least(Rests(9967), short(1), [(1, False, 0), (151, False, 0)], stretch=False), True)
        # With stretch 302 and 453 are needed.
        self.assertIs(shows_least(Rests(9967), short(1), [(1, False, 0), (151, True, 0)], stretch=False), False)

    def test_the_other_stretch_or_table(self):
        ground = Rests(97)
        plan = parts(short(2), short(3))
        self.assertIs(shows_least(ground, plan, least_paper(ground, 6, stretch=False)), False)
        self.assertIs(shows_least(ground, plan, least_paper(ground, 6), table=(1, 2)), False)
        self.assertIs(shows_least(ground, plan, least_paper(ground, 6, table=(1, 2))), False)
        self.assertIs(shows_least(ground, plan, least_paper(ground, 6, table=(1, 2)), table=(1, 2)), True)

    def test_kinds_otherwise(self):
        ground = Rests(5)
        plan = short(4)
        paper = [(4, False, 11), (2, False, 2), (1, False, 0), (1, True, 0)]
        self.assertIs(shows_least(ground, plan, paper, stretch=False), True)
        self.assertIs(shows_least(ground, plan, tuple(paper), stretch=False), False)
        for at, (n, s, c) in enumerate(paper):
            wrongs = [[n, s, c], (n, s, c, 0), (n, s), (n, c, s), ((n, s, c),), [(n, s, c)], *OTHER_THINGS, 0, 11]
            for part in (*OTHER_THINGS, (1,), [1], "4"):
                wrongs += [(part, s, c), (n, s, part)]
                if not isinstance(part, bool):
                    wrongs.append((n, part, c))
            wrongs += [(-n, s, c), (0, s, c), (3, s, c), (n, 0, c), (n, 1, c), (n, int(s), c), (n, s, -1)]
            for wrong in wrongs:
                changed = paper[:at] + [wrong] + paper[at + 1:]
                self.assertIs(shows_least(ground, plan, changed, stretch=False), False, changed)

    def test_truths_and_numbers(self):
        ground = Rests(97)
        self.assertIs(shows_least(ground, short(1), [(1, False, 0)], stretch=False), True)
        for wrong in ((True, False, 0), (1, 0, 0), (1, False, False), (True, False, False), (1, 1, 0), (1, None, 0)):
            self.assertIs(shows_least(ground, short(1), [wrong], stretch=False), False)
        self.assertIs(shows_least(ground, short(1), [(1, True, 0)]), True)
        for wrong in ((True, True, 0), (1, 1, 0), (1, True, False)):
            self.assertIs(shows_least(ground, short(1), [wrong]), False)

    def test_a_length_without_a_root(self):
        ground = Rests(7)
        paper = least_paper(ground, 6)
        plan = best_plan(ground, 6)[0]
        for length in (4, 5, 7, 9, 12, 10 ** 6, 0, -1, -6):
            for with_stretch in (True, False):
                self.assertIs(shows_least(ground, plan, paper + [(length, with_stretch, 0)]), False)
        for length in (5, 8, 24):
            self.assertIs(shows_least(Roots(12), short(1), [(1, True, 0), (length, False, 0)]), False)

    def test_below_nought(self):
        self.assertIs(shows_least(Rests(97), short(1), [(1, True, 0), (1, False, 0)]), True)
        self.assertIs(shows_least(Rests(97), short(1), [(1, True, 0), (1, False, -1)]), False)

    def test_other_things(self):
        for ground in (Rests(97), Roots(12)):
            deep = [[1], (2, None)]
            for _ in range(5):
                deep = [deep, (deep, "x")]
            for thing in (*OTHER_THINGS, 0, 1, -1, deep, tuple(deep), [[]], [()], [[1, True, 0]], "[(1, True, 0)]",
                          (1, True, 0), [1, True, 0], [(1, True, 0), None], ([(1, True, 0)],), [(1, [True], 0)],
                          [([1], True, 0)], [(1, True, [0])], [(1, True, (0,))]):
                self.assertIs(shows_least(ground, short(1), thing), False, thing)
            self.assertIs(shows_least(ground, short(1), [(1, True, 0)]), True)

    def test_the_thing_stays_as_it_was(self):
        paper = least_paper(Rests(97), 12)
        kept = list(paper)
        shows_least(Rests(97), best_plan(Rests(97), 12)[0], paper)
        self.assertEqual(paper, kept)

    def test_powers_and_stretch_are_held_to_theirs(self):
        # 3 by powers needs 2, and 2 with stretch needs 3, 4, 6 and 8 without.
        ground = Rests(7)
        self.assertEqual([plan[0] for plan in all_plans(ground, 3)[:3]], ["plain", "short", "powers"])
        bounds = {(3, True): 10, (2, True): 2, (6, False): 26, (3, False): 10, (2, False): 2}
        paper = [(n, s, c) for (n, s), c in bounds.items()]
        self.assertIs(shows_least(ground, short(3), paper), True)
        for key in bounds:
            less = [(n, s, c) for (n, s), c in bounds.items() if (n, s) != key]
            self.assertIs(shows_least(ground, short(3), less), False)
        # With a bound that is too low for them, they'd be cheaper.
        table = (1, 0)
        self.assertIs(shows_least(Rests(5), plain(4), [(4, False, 12), (2, False, 2)], table=table, stretch=False),
                      False)
        self.assertIs(shows_least(Rests(5), short(4), [(4, False, 8), (2, False, 2)], table=table, stretch=False),
                      True)
        self.assertIs(shows_least(Rests(5), short(4), [(4, False, 8), (2, False, 1)], table=table, stretch=False),
                      False)
        self.assertIs(shows_least(Rests(7), plain(3), [(3, False, 6), (2, False, 1)], table=table, stretch=False),
                      True)
        self.assertIs(shows_least(Rests(7), plain(3), [(3, False, 6), (2, False, 0)], table=table, stretch=False),
                      False)


class Calls(Asking, unittest.TestCase):
    def test_by_name(self):
        ground = Rests(7)
        paper = least_paper(stretch=False, table=(2, 5), length=6, ground=ground)
        plan = best_plan(ground, 6, table=(2, 5), stretch=False)[0]
        self.assertEqual(paper, least_paper(ground, 6, table=(2, 5), stretch=False))
        self.assertIs(shows_least(stretch=False, table=(2, 5), thing=paper, plan=plan, ground=ground), True)
        self.assertIs(shows_least(stretch=True, table=(2, 5), thing=paper, plan=plan, ground=ground), False)

    def test_by_name_alone(self):
        with self.assertRaises(TypeError):
            least_paper(Rests(7), 6, (1, 3))
        with self.assertRaises(TypeError):
            shows_least(Rests(7), short(1), [], (1, 3))

    def test_told_lists_are_the_askers_own(self):
        self.assert_own(least_paper, Rests(7), 6)


if __name__ == "__main__":
    unittest.main()
