"""Point [1] as a whole: what one part tells holds in another one."""

import unittest

from asking import Asking
from samples import roots_of, row_on, sums_on
from turnsums.book import Book
from turnsums.choosing import all_plans, best_plan
from turnsums.deeds import do
from turnsums.desk import answers
from turnsums.directions import into_parts, out_of_parts, plain_all, turn_all
from turnsums.errors import TurnError
from turnsums.halves import even_from, half_of, half_turning, is_even
from turnsums.papers import least_paper, shows_least
from turnsums.places import Place
from turnsums.plainly import plain_turning, shows_turning
from turnsums.plans import is_plan, plan_fits
from turnsums.plantexts import plan_in, plan_text
from turnsums.products import round_by, round_plain, straight_by, straight_plain, wrapped
from turnsums.rests import Rests
from turnsums.roots import Roots
from turnsums.steps import cost_of, steps_of
from turnsums.turning import counted, turned_by

GROUNDS = (Rests(7), Rests(13), Rests(97), Rests(241), Roots(1), Roots(6), Roots(12), Roots(30))


class Whole(Asking, unittest.TestCase):
    def test_each_plan_that_the_rules_make(self):
        for ground in GROUNDS:
            for n in (1, 2, 3, 4, 5, 6, 12):
                if roots_of(ground) % n:
                    continue
                row = row_on(ground, n)
                turning = plain_turning(ground, row)
                best, cost = best_plan(ground, n, stretch=False)
                self.assertIs(shows_least(ground, best, least_paper(ground, n, stretch=False), stretch=False), True)
                for plan in all_plans(ground, n, stretch=False)[:40]:
                    self.assertIs(is_plan(plan) and plan_fits(ground, plan), True)
                    self.assert_same(plan_in(plan_text(plan)), plan)
                    self.assert_same(counted(ground, plan, row), (turning, steps_of(plan)))
                    self.assert_same(counted(ground, plan, turning, back=True), (row, steps_of(plan, back=True)))
                    self.assertGreaterEqual(cost_of(plan), cost)
                    self.assert_same(round_by(ground, row, row, plan=plan), round_plain(ground, row, row))

    def test_one_turning_in_each_way(self):
        for ground in GROUNDS:
            for first, second in ((1, 2), (2, 3), (3, 4), (4, 3), (5, 6)):
                n = first * second
                if roots_of(ground) % n:
                    continue
                row = row_on(ground, n)
                wanted = sums_on(ground, row)
                book = Book()
                plan = book.plan_for(ground, n)
                told = [
                    plain_turning(ground, row), turned_by(ground, plan, row), book.turned(ground, row),
                    do(book, [("turned", ground, row)])[0],
                    out_of_parts(plain_all(ground, (first, second), into_parts(row, first, second)), first, second),
                    out_of_parts(turn_all(ground, [book.plan_for(ground, first), book.plan_for(ground, second)],
                                          into_parts(row, first, second), order=(1, 0)), first, second),
                ]
                place = Place(ground, row)
                for part in (first, second):
                    if part > 1:
                        place.step(part)
                place.settle()
                told.append(place.worths())
                for turning in told:
                    self.assert_same(turning, wanted)
                    self.assertIs(shows_turning(ground, row, turning), True)

    def test_even_rows(self):
        ground = Rests(241)
        for h in (1, 2, 3, 4, 6, 10, 12, 30):
            half = row_on(ground, h + 1)
            turning = plain_turning(ground, even_from(half))
            self.assertIs(is_even(turning), True)
            book = Book()
            self.assert_same(half_turning(ground, half, plan=book.plan_for(ground, h)), half_of(turning))

    def test_sums_of_products(self):
        for ground in GROUNDS:
            for n, m in ((1, 1), (2, 2), (3, 2), (5, 6)):
                one, other = row_on(ground, n), row_on(ground, m, 4)
                straight = straight_plain(ground, one, other)
                for length in range(max(n, m), n + m + 1):
                    if roots_of(ground) % length == 0:
                        nought = [ground.worth_of(0)]
                        plan = best_plan(ground, length)[0]
                        filled = one + nought * (length - n), other + nought * (length - m)
                        self.assert_same(round_by(ground, *filled, plan=plan), wrapped(ground, straight, length))
                        if length >= n + m - 1:
                            self.assert_same(straight_by(ground, one, other, plan=plan), straight)

    def test_the_desk_tells_what_the_parts_tell(self):
        for n in (1, 2, 3, 4, 6, 8, 12, 16, 24, 32, 48):
            row = row_on(Rests(97), n)
            text = " ".join(str(worth) for worth in row)
            plan, cost = best_plan(Rests(97), n)
            wanted = [
                " ".join(str(worth) for worth in sums_on(Rests(97), row)), str(cost), plan_text(plan), str(cost),
                f"{n}:{plan_text(plan)}"]
            self.assert_same(answers(f"turn {text}\nspent\nplan {n}\ncost {n}\nkept"), wanted)

    def test_refusals_are_turn_errors_and_change_nothing(self):
        ground = Roots(12)
        row = [ground.worth_of(1)] + [ground.worth_of(0)] * 5
        book, place = Book(), Place(ground, row)
        for asked in (
            lambda: book.plan_for(ground, 5), lambda: book.turned(ground, row, back=True),
            lambda: book.forget(ground, 6), lambda: do(book, [("plan_for",)]), lambda: place.step(4),
            place.settle, place.unstep, lambda: answers("turn"), lambda: half_of([1, 2, 3]),
        ):
            with self.assertRaises(TurnError) as caught:
                asked()
            self.assertIs(type(caught.exception).__bases__[0], TurnError)
            self.assertTrue(hasattr(caught.exception, "what"))
        self.assertEqual((len(book), book.spent(), book.log(), book.is_open()), (0, 0, [], True))
        self.assertEqual((place.worths(), place.parts(), place.is_settled()), (row, [], False))


if __name__ == "__main__":
    unittest.main()
