"""Points [20] and [1] (g)."""

import unittest

from asking import Asking
from reckoning import Reckoning, cost, state
from samples import parts, plain, powers, row_on, short, split, stretch, sums_on
from turnsums.book import Book
from turnsums.choosing import best_plan
from turnsums.errors import NoRoot, NoShare, NotKept
from turnsums.rests import Rests
from turnsums.roots import Roots

A, B = Rests(97), Roots(12)
TABLES = ((1, 3), (3, 1), (1, 0), (0, 1), (0, 0), (1000, 1), (1, 1000))


class Asked(Asking):
    def assert_reckoned(self, book, wanted):
        self.assert_same(book.all_kept(), wanted.all_kept())
        self.assert_same(book.spent(), wanted.spent)
        self.assert_same(book.table_now(), wanted.table)
        self.assert_same(len(book), len(wanted.rows))
        for name, length, plan, uses, learnt in wanted.all_kept():
            kind, number = name.split(" ")
            ground = Rests(int(number)) if kind == "rests" else Roots(int(number))
            self.assert_same(book.uses_of(ground, length), uses)

    def assert_refused_unchanged(self, refusal, what, book, asked, *told, **named):
        ahead = state(book)
        self.assert_refused(refusal, what, asked, *told, **named)
        self.assert_same(state(book), ahead)


class PlanFor(Asked, unittest.TestCase):
    def test_the_best_by_the_books_table(self):
        for table in TABLES:
            for ground in (A, B, Rests(241), Roots(30)):
                book = Book(table=table)
                for length in (1, 2, 3, 4, 5, 6, 8, 12, 15, 30, 60):
                    if ground.has_root(length):
                        wanted = best_plan(ground, length, table=table)[0]
                        self.assert_same(book.plan_for(ground, length), wanted)
                        self.assert_same(book.plan_for(ground, length), wanted)
                        self.assert_same(book.uses_of(ground, length), 2)

    def test_tables_that_choose_unlike(self):
        # So that a book that took another table would be seen.
        plans = {table: Book(table=table).plan_for(A, 12) for table in TABLES}
        self.assertGreater(len(set(plans.values())), 1)
        self.assert_same(Book().plan_for(A, 12), plans[(1, 3)])

    def test_kept_from_then_on(self):
        book = Book()
        self.assert_same(book.all_kept(), [])
        plan = book.plan_for(A, 12)
        self.assert_same(book.all_kept(), [("rests 97", 12, plan, 1, False)])
        book.plan_for(A, 12)
        self.assert_same(book.all_kept(), [("rests 97", 12, plan, 2, False)])
        book.plan_for(B, 12)
        self.assert_same(book.all_kept(), [
            ("rests 97", 12, plan, 2, False), ("roots 12", 12, best_plan(B, 12)[0], 1, False)])
        book.plan_for(A, 12)
        self.assert_same([row[:2] for row in book.all_kept()], [("roots 12", 12), ("rests 97", 12)])
        self.assert_same(book.spent(), 0)

    def test_no_root_keeps_nothing(self):
        book = Book()
        for ground, length in ((A, 5), (A, 60), (B, 5), (B, 24), (Rests(2), 2)):
            self.assert_refused_unchanged(NoRoot, length, book, book.plan_for, ground, length)
        self.assert_same(book.all_kept(), [])
        book.plan_for(A, 4)
        self.assert_refused_unchanged(NoRoot, 5, book, book.plan_for, A, 5)

    def test_grounds_that_are_alike_share(self):
        book = Book()
        book.plan_for(Rests(97), 4)
        book.plan_for(Rests(97), 4)
        book.turned(Rests(97), [1, 2, 3, 4])
        self.assert_same(book.uses_of(Rests(97), 4), 3)
        self.assert_same(len(book), 1)
        book.plan_for(Rests(193), 4)
        book.plan_for(Roots(4), 4)
        self.assert_same(len(book), 3)
        self.assert_same(book.uses_of(Rests(193), 4), 1)
        book.forget(Rests(97), 4)
        self.assert_same(book.uses_of(A, 4), 0)
        self.assert_same(len(book), 2)


class Turned(Asked, unittest.TestCase):
    def test_the_plain_turning(self):
        for ground in (A, B, Rests(241), Roots(1), Roots(30)):
            book = Book(most=3)
            for n in (1, 2, 3, 4, 5, 6, 12, 15, 30, 60):
                if ground.has_root(n):
                    row = row_on(ground, n)
                    turning = sums_on(ground, row)
                    self.assert_same(book.turned(ground, row), turning)
                    self.assert_same(book.turned(ground, tuple(row), back=False), turning)
                    self.assert_same(book.turned(ground, turning, back=True), row)
                    self.assert_same(book.turned(ground, tuple(turning), back=True), row)

    def test_by_the_plan_that_is_kept(self):
        for plan in (plain(6), split(short(2), short(3)), stretch(6, parts(short(3), short(4)))):
            book = Book()
            book.learn(A, plan)
            row = row_on(A, 6)
            turning = book.turned(A, row)
            self.assert_same(turning, sums_on(A, row))
            self.assert_same(book.spent(), cost(plan, (1, 3)))
            self.assert_same(book.turned(A, turning, back=True), row)
            self.assert_same(book.spent(), cost(plan, (1, 3)) + cost(plan, (1, 3), True))
            self.assert_same(book.all_kept(), [("rests 97", 6, plan, 2, True)])
            self.assert_same(book.plan_for(A, 6), plan)

    def test_spent_by_the_table_of_then(self):
        for table in TABLES:
            book = Book(table=table)
            book.learn(A, split(short(2), short(3)))
            row = row_on(A, 6)
            book.turned(A, row)
            first = cost(split(short(2), short(3)), table)
            self.assert_same(book.spent(), first)
            book.retable((7, 5))
            self.assert_same(book.spent(), first)
            book.turned(A, row, back=True)
            self.assert_same(book.spent(), first + cost(split(short(2), short(3)), (7, 5), True))

    def test_no_share_keeps_nothing(self):
        row = [B.worth_of(1)] + [B.worth_of(0)] * 5
        book = Book()
        self.assert_refused_unchanged(NoShare, 6, book, book.turned, B, row, back=True)
        self.assert_same(book.all_kept(), [])
        book.plan_for(B, 6)
        book.plan_for(B, 4)
        self.assert_refused_unchanged(NoShare, 6, book, book.turned, B, tuple(row), back=True)
        self.assert_same([line[1] for line in book.all_kept()], [6, 4])
        book.turned(B, row)
        self.assert_same(book.uses_of(B, 6), 2)
        # Nothing is gone for it, either.
        book = Book(most=1)
        book.plan_for(A, 8)
        self.assert_refused_unchanged(NoShare, 6, book, book.turned, B, row, back=True)

    def test_no_root(self):
        book = Book()
        book.plan_for(A, 4)
        for back in (False, True):
            self.assert_refused_unchanged(NoRoot, 5, book, book.turned, A, [0] * 5, back=back)
            self.assert_refused_unchanged(NoRoot, 7, book, book.turned, B, [B.worth_of(0)] * 7, back=back)


class Learning(Asked, unittest.TestCase):
    def test_in_the_place_of_another_one(self):
        book = Book()
        book.plan_for(A, 6)
        book.plan_for(A, 6)
        book.plan_for(A, 4)
        self.assertIsNone(book.learn(A, plain(6)))
        self.assert_same(book.all_kept(), [("rests 97", 4, short(4), 1, False), ("rests 97", 6, plain(6), 0, True)])
        self.assert_same(book.plan_for(A, 6), plain(6))
        self.assert_same(book.uses_of(A, 6), 1)
        book.learn(A, split(short(3), short(2)))
        self.assert_same(book.all_kept()[-1], ("rests 97", 6, split(short(3), short(2)), 0, True))
        self.assert_same(len(book), 2)
        # The same once more: its uses are from 0 again.
        book.plan_for(A, 6)
        book.learn(A, split(short(3), short(2)))
        self.assert_same(book.uses_of(A, 6), 0)

    def test_the_last_used(self):
        book = Book(most=2)
        book.plan_for(A, 2)
        book.plan_for(A, 3)
        book.learn(A, plain(2))
        book.plan_for(A, 4)
        self.assert_same([row[1] for row in book.all_kept()], [2, 4])

    def test_no_root_of_the_first_length(self):
        book = Book()
        book.learn(A, plain(3))
        told = (
            (A, plain(5), 5), (A, parts(short(3), plain(5)), 5), (Rests(7), parts(short(3), short(4)), 4),
            (Rests(11), powers(5, short(4)), 4), (Rests(7), stretch(3, plain(5)), 5),
            (B, stretch(2, stretch(5, plain(9))), 5), (B, short(4), None), (Roots(4), split(short(2), plain(3)), 3),
        )
        for ground, plan, length in told:
            if length is None:
                book.learn(ground, plan)
            else:
                self.assert_refused_unchanged(NoRoot, length, book, book.learn, ground, plan)

    def test_forget(self):
        book = Book()
        book.plan_for(A, 4)
        book.learn(A, plain(6))
        book.plan_for(B, 6)
        self.assert_refused_unchanged(NotKept, 3, book, book.forget, A, 3)
        self.assert_refused_unchanged(NotKept, 4, book, book.forget, B, 4)
        self.assert_refused_unchanged(NotKept, 5, book, book.forget, A, 5)
        self.assertIsNone(book.forget(A, 6))
        self.assert_same([row[:2] for row in book.all_kept()], [("rests 97", 4), ("roots 12", 6)])
        self.assert_refused_unchanged(NotKept, 6, book, book.forget, A, 6)
        # Chosen anew, no more learnt, its uses from 0.
        self.assert_same(book.plan_for(A, 6), best_plan(A, 6)[0])
        self.assert_same(book.all_kept()[-1], ("rests 97", 6, best_plan(A, 6)[0], 1, False))

    def test_retable(self):
        book = Book()
        book.learn(A, plain(6))
        book.plan_for(A, 12)
        book.learn(B, plain(4))
        book.turned(A, row_on(A, 6))
        book.plan_for(B, 3)
        spent = book.spent()
        self.assertGreater(spent, 0)
        self.assertIsNone(book.retable((1000, 1)))
        self.assert_same(book.table_now(), (1000, 1))
        self.assert_same(book.all_kept(), [("roots 12", 4, plain(4), 0, True), ("rests 97", 6, plain(6), 1, True)])
        self.assert_same(book.spent(), spent)
        self.assert_same(book.uses_of(A, 12), 0)
        wanted = best_plan(A, 12, table=(1000, 1))[0]
        self.assertNotEqual(wanted, best_plan(A, 12)[0])
        self.assert_same(book.plan_for(A, 12), wanted)
        self.assert_same(book.uses_of(A, 12), 1)
        self.assert_same(book.plan_for(A, 6), plain(6))
        # The same table once more forgets as well.
        book.retable((1000, 1))
        self.assert_same([row[1] for row in book.all_kept()], [4, 6])


class Most(Asked, unittest.TestCase):
    def test_the_one_that_was_not_used_for_longest(self):
        book = Book()
        for length in (1, 2, 3, 4, 6, 8):
            book.plan_for(A, length)
        self.assert_same(len(book), 6)
        book.plan_for(A, 1)
        book.plan_for(A, 12)
        self.assert_same([row[1] for row in book.all_kept()], [3, 4, 6, 8, 1, 12])
        book.turned(A, [1, 2, 3])
        book.learn(A, plain(16))
        self.assert_same([row[1] for row in book.all_kept()], [6, 8, 1, 12, 3, 16])
        # Gone; it comes anew with its uses from 0.
        self.assert_same(book.uses_of(A, 4), 0)
        book.plan_for(A, 4)
        self.assert_same(book.uses_of(A, 4), 1)
        self.assert_same([row[1] for row in book.all_kept()], [8, 1, 12, 3, 16, 4])

    def test_learnt_or_not(self):
        book = Book(most=2)
        book.learn(A, plain(2))
        book.plan_for(A, 3)
        book.plan_for(A, 4)
        self.assert_same([row[1] for row in book.all_kept()], [3, 4])
        self.assert_same(book.plan_for(A, 2), short(2))
        book.learn(A, plain(6))
        book.learn(A, plain(8))
        self.assert_same(book.all_kept(), [("rests 97", 6, plain(6), 0, True), ("rests 97", 8, plain(8), 0, True)])

    def test_most_one(self):
        book = Book(most=1)
        for length in (2, 3, 4, 2):
            book.plan_for(A, length)
            self.assert_same([row[1:4:2] for row in book.all_kept()], [(length, 1)])
        book.plan_for(A, 2)
        self.assert_same(book.uses_of(A, 2), 2)
        book.learn(A, plain(3))
        self.assert_same(book.all_kept(), [("rests 97", 3, plain(3), 0, True)])
        self.assert_same(book.turned(A, [1, 2]), [3, 96])
        self.assert_same(book.all_kept(), [("rests 97", 2, short(2), 1, False)])

    def test_each_most(self):
        for most in range(1, 7):
            book = Book(most=most)
            for at, length in enumerate((1, 2, 3, 4, 6, 8, 12, 16)):
                book.plan_for(A, length)
                self.assert_same(len(book), min(most, at + 1))

    def test_asking_uses_nothing(self):
        book = Book(most=2)
        book.plan_for(A, 2)
        book.plan_for(A, 3)
        ahead = state(book)
        for _ in range(3):
            book.uses_of(A, 2)
            book.uses_of(A, 4)
            book.all_kept()
            book.spent()
            book.table_now()
            book.log()
            book.is_open()
            book.twin()
            len(book)
            self.assert_same(state(book), ahead)
        book.plan_for(A, 4)
        self.assert_same([row[1] for row in book.all_kept()], [3, 4])


class ManyDeeds(Asked, unittest.TestCase):
    def test_by_the_reckoning(self):
        """Deeds in an order that a plain rule makes, a hundred on each book."""
        plans = (plain(2), plain(6), split(short(2), short(3)), short(4), plain(12), stretch(3, plain(6)), plain(1))
        grounds = (A, B, Rests(13), Roots(24))
        for most in (1, 2, 3, 6):
            for seed in (1, 5, 11):
                table = TABLES[seed % len(TABLES)]
                book, wanted = Book(table=table, most=most), Reckoning(table, most)
                number = seed
                for _ in range(100):
                    number = (number * 421 + 1663) % 7875
                    ground = grounds[number % 4]
                    length = (1, 2, 3, 4, 6, 12)[number // 4 % 6]
                    deed = number // 24 % 9
                    if deed < 3:
                        self.assert_same(book.plan_for(ground, length), wanted.plan_for(ground, length))
                    elif deed == 3:
                        row = row_on(ground, length, number)
                        self.assert_same(book.turned(ground, row), wanted.turned(ground, row))
                    elif deed == 4:
                        row = [ground.product_of(worth, ground.worth_of(length)) for worth in row_on(ground, length)]
                        self.assert_same(book.turned(ground, row, back=True), wanted.turned(ground, row, True))
                    elif deed < 7:
                        plan = plans[number // 216 % len(plans)]
                        book.learn(ground, plan)
                        wanted.learn(ground, plan)
                    elif deed == 7 and wanted.find(ground, length) is not None:
                        book.forget(ground, length)
                        wanted.forget(ground, length)
                    elif deed == 7:
                        self.assert_refused_unchanged(NotKept, length, book, book.forget, ground, length)
                    else:
                        table = TABLES[number // 216 % len(TABLES)]
                        book.retable(table)
                        wanted.retable(table)
                    self.assert_reckoned(book, wanted)


class Copies(Asked, unittest.TestCase):
    def told(self):
        book = Book(most=3)
        book.plan_for(A, 4)
        book.learn(A, plain(6))
        book.turned(A, row_on(A, 4))
        return book

    def test_two_books_share_nothing(self):
        one, other = self.told(), Book()
        self.assert_same(state(other), ([], 0, (1, 3), 0, [], True))
        self.assert_same(state(one), state(self.told()))
        other.retable((5, 5))
        self.assert_same(one.table_now(), (1, 3))
        self.assert_same(Book().table_now(), (1, 3))

    def test_twin(self):
        book = self.told()
        twin = book.twin()
        self.assertIsInstance(twin, Book)
        self.assertIsNot(twin, book)
        self.assert_same(state(twin), state(book))
        ahead = state(book)
        twin.plan_for(A, 12)
        twin.plan_for(A, 2)
        # As many are kept by it as by the book.
        self.assert_same([row[1] for row in twin.all_kept()], [4, 12, 2])
        twin.turned(B, row_on(B, 6))
        twin.retable((9, 9))
        twin.learn(A, plain(3))
        twin.forget(A, 3)
        self.assert_same(state(book), ahead)
        twin = book.twin()
        ahead = state(twin)
        book.turned(A, row_on(A, 6))
        book.forget(A, 4)
        book.retable((2, 2))
        self.assert_same(state(twin), ahead)
        self.assert_same(book.twin().table_now(), (2, 2))

    def test_told_lists(self):
        book = self.told()
        ahead = state(book)
        for asked in (book.all_kept, book.log):
            told = asked()
            self.assertIsNot(told, asked())
            told.append("more")
            told[0] = "other"
            self.assert_same(state(book), ahead)
        for row in ([5], [1, 2], [1, 2, 3, 4]):
            kept = list(row)
            for back in (False, True):
                told = book.turned(A, row, back=back)
                wanted = list(told)
                told.append("more")
                told[0] = "other"
                self.assertEqual(row, kept)
                self.assert_same(book.turned(A, row, back=back), wanted)


class Calls(Asked, unittest.TestCase):
    def test_by_name(self):
        book = Book(most=2, table=(2, 5))
        self.assertEqual(book.plan_for(length=4, ground=A), short(4))
        self.assertEqual(book.turned(row=[1, 2], ground=A), [3, 96])
        self.assertEqual(book.turned(back=True, row=[3, 96], ground=A), [1, 2])
        self.assertIsNone(book.learn(plan=plain(3), ground=A))
        self.assertEqual(book.uses_of(length=2, ground=A), 2)
        self.assertIsNone(book.forget(length=3, ground=A))
        self.assertIsNone(book.retable(table=(1, 1)))
        self.assertEqual(book.table_now(), (1, 1))
        self.assert_refused(NotKept, 3, book.forget, length=3, ground=A)

    def test_by_name_alone(self):
        with self.assertRaises(TypeError):
            Book((1, 3))
        with self.assertRaises(TypeError):
            Book().turned(A, [1], True)

    def test_left_out(self):
        self.assert_same(Book().table_now(), (1, 3))
        book = Book()
        for length in (1, 2, 3, 4, 6, 8, 12):
            book.plan_for(A, length)
        self.assert_same(len(book), 6)

    def test_each_method_stands_in_the_class_itself(self):
        for name in ("plan_for turned learn forget retable all_kept uses_of spent table_now __len__ twin log"
                     " is_open").split():
            self.assertIn(name, vars(Book))


if __name__ == "__main__":
    unittest.main()
