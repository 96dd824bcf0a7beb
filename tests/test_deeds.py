"""Points [21] and [1] (h)."""

import unittest

from asking import OTHER_THINGS, Asking
from reckoning import state
from samples import plain, row_on, short, split, sums_on
from turnsums.book import Book
from turnsums.choosing import best_plan
from turnsums.deeds import do
from turnsums.errors import BadDeed, NoRoot, NotKept
from turnsums.rests import Rests
from turnsums.roots import Roots

A, B = Rests(97), Roots(12)

GOOD = (
    ("plan_for", A, 4), ("turned", A, [1, 2, 3, 4]), ("learn", A, plain(6)), ("forget", A, 4), ("retable", (5, 2)),
    ("turned", B, tuple(row_on(B, 6))), ("plan_for", B, 12), ("learn", B, split(short(2), short(3))),
)
REFUSED = (
    (("plan_for", A, 5), NoRoot, 5), (("turned", A, [0] * 7), NoRoot, 7), (("learn", A, plain(10)), NoRoot, 10),
    (("learn", B, split(short(3), short(3))), NoRoot, 9), (("forget", A, 3), NotKept, 3), (("forget", B, 1), NotKept, 1),
)
NO_DEEDS = OTHER_THINGS + (
    ("turn", A, [1]), ("spent",), ("all_kept",), ("twin",), ("log",), ("is_open",), ("uses_of", A, 4), ("table_now",),
    ("Plan_for", A, 4), ("plan_for ", A, 4), ("", A, 4), ("plan_for",), ("plan_for", A), ("plan_for", A, 4, 5),
    ("turned",), ("turned", A), ("turned", A, [1], True), ("turned", A, [1], False), ("learn", plain(3)), ("learn",),
    ("learn", A, plain(3), None), ("forget", A), ("forget", A, 4, 4), ("forget",), ("retable",), ("retable", 1, 3),
    ("retable", (1, 3), (1, 3)), ["plan_for", A, 4], ["retable", (1, 3)], [], "plan_for", "retable", 0, 3, 10 ** 6,
    (["plan_for"], A, 4), (("plan_for",), A, 4), (None, A, 4), (True, A, 4), (0, A, 4), ({}, A, 4), (A, A, 4),
    (b"plan_for", A, 4), ((["retable"],), (1, 3)), A, B, ((),), ([],), {}, {"plan_for": 3}, Book(),
)


class Told(Asking, unittest.TestCase):
    def test_what_each_tells(self):
        for kind in (list, tuple):
            book = Book()
            told = do(book, kind(GOOD))
            self.assert_same(told, [
                short(4), sums_on(A, [1, 2, 3, 4]), None, None, None, sums_on(B, row_on(B, 6)),
                best_plan(B, 12, table=(5, 2))[0], None])

    def test_as_done_one_by_one(self):
        book, other = Book(most=2), Book(most=2)
        told = do(book, list(GOOD))
        wanted = [
            other.plan_for(A, 4), other.turned(A, [1, 2, 3, 4]), other.learn(A, plain(6)), other.forget(A, 4),
            other.retable((5, 2)), other.turned(B, row_on(B, 6)), other.plan_for(B, 12),
            other.learn(B, split(short(2), short(3)))]
        self.assert_same(told, wanted)
        self.assert_same(state(book)[:4], state(other)[:4])
        self.assert_same(other.log(), [])

    def test_no_deeds_at_all(self):
        for deeds in ([], ()):
            book = Book()
            self.assert_same(do(book, deeds), [])
            self.assert_same(book.log(), [("in", 0), ("out", 0)])
            self.assertIs(book.is_open(), True)

    def test_by_name(self):
        book = Book()
        self.assert_same(do(deeds=[("plan_for", A, 4)], book=book), [short(4)])


class Refused(Asking, unittest.TestCase):
    def test_amid_the_row(self):
        for deed, refusal, what in REFUSED:
            for many in range(4):
                ahead = list(GOOD[:many])
                if deed == ("forget", A, 3):
                    ahead = [("learn", A, plain(3)), ("forget", A, 3)] + ahead
                for behind in ([], [("plan_for", A, 8)], [("retable", (9, 9)), ("turned", A, [1, 2])]):
                    book, other = Book(), Book()
                    self.assert_refused(refusal, what, do, book, ahead + [deed] + behind)
                    self.assertIs(book.is_open(), True)
                    do(other, ahead)
                    self.assert_same(state(book)[:4], state(other)[:4])
                    words = [done[0] for done in ahead]
                    self.assert_same(book.log(), [("in", len(ahead) + 1 + len(behind))] + words + [("out", len(ahead))])
                    # It goes on from there.
                    self.assert_same(do(book, (("turned", A, [1, 2]),)), [[3, 96]])
                    self.assert_same(book.log()[-3:], [("in", 1), "turned", ("out", 1)])
                    self.assertIs(book.is_open(), True)

    def test_the_first_of_several(self):
        book = Book()
        self.assert_refused(NotKept, 4, do, book, [("forget", A, 4), ("plan_for", A, 5)])
        self.assert_refused(NoRoot, 5, do, book, [("plan_for", A, 5), ("forget", A, 4)])
        self.assert_same(book.log(), [("in", 2), ("out", 0)] * 2)


class BadDeeds(Asking, unittest.TestCase):
    def test_ahead_of_all(self):
        for thing in NO_DEEDS:
            for many in (0, 1, 3):
                for kind in (list, tuple):
                    book = Book()
                    book.plan_for(A, 2)
                    do(book, [("plan_for", A, 3)])
                    ahead = state(book)
                    self.assert_refused(BadDeed, many, do, book, kind(GOOD[:many] + (thing,) + GOOD[:1]))
                    self.assert_same(state(book), ahead)

    def test_the_first_one(self):
        book = Book()
        self.assert_refused(BadDeed, 1, do, book, [GOOD[0], None, GOOD[1], ("turned",)])
        self.assert_refused(BadDeed, 0, do, book, [["plan_for", A, 4], None])
        # Ahead of one that would be refused.
        self.assert_refused(BadDeed, 2, do, book, [("plan_for", A, 5), ("forget", A, 4), "turned"])
        self.assert_same(state(book), ([], 0, (1, 3), 0, [], True))


class Logs(Asking, unittest.TestCase):
    def test_one_behind_the_other(self):
        book = Book()
        self.assert_same(book.log(), [])
        self.assertIs(book.is_open(), True)
        book.plan_for(A, 4)
        book.turned(A, [1, 2])
        book.learn(A, plain(3))
        book.forget(A, 3)
        book.retable((2, 2))
        self.assert_same(book.log(), [])
        do(book, [("plan_for", A, 4), ("retable", (1, 1))])
        book.plan_for(A, 2)
        self.assert_refused(NoRoot, 5, do, book, [("learn", A, plain(3)), ("plan_for", A, 5), ("plan_for", A, 6)])
        do(book, [])
        do(book, [("turned", A, [1, 2]), ("forget", A, 2)])
        self.assert_same(book.log(), [
            ("in", 2), "plan_for", "retable", ("out", 2), ("in", 3), "learn", ("out", 1), ("in", 0), ("out", 0),
            ("in", 2), "turned", "forget", ("out", 2)])

    def test_twins_have_it_too(self):
        book = Book()
        do(book, [("plan_for", A, 4)])
        twin = book.twin()
        self.assert_same(state(twin), state(book))
        do(twin, [("plan_for", A, 2)])
        self.assert_same(book.log(), [("in", 1), "plan_for", ("out", 1)])
        do(book, [])
        self.assert_same(twin.log(), [("in", 1), "plan_for", ("out", 1)] * 2)
        self.assert_same(book.log(), [("in", 1), "plan_for", ("out", 1), ("in", 0), ("out", 0)])

    def test_open_unless_a_do_is_at_work(self):
        class Watched(Rests):
            def has_root(self, length):
                seen.append((book.is_open(), book.log()))
                return Rests.has_root(self, length)

        seen = []
        book = Book()
        do(book, [("plan_for", A, 2), ("plan_for", Watched(97), 4)])
        self.assertTrue(seen)
        for told in seen:
            self.assert_same(told, (False, [("in", 2), "plan_for"]))
        self.assertIs(book.is_open(), True)
        self.assert_refused(NoRoot, 5, do, book, [("plan_for", Watched(97), 5)])
        self.assertIs(seen[-1][0], False)
        self.assertIs(book.is_open(), True)


class Copies(Asking, unittest.TestCase):
    def test_what_is_handed_in_stays(self):
        row = [1, 2, 3, 4]
        deeds = [("turned", A, row), ("turned", A, row), ("retable", (1, 1))]
        kept = list(deeds)
        book = Book()
        told = do(book, deeds)
        self.assertEqual(deeds, kept)
        self.assertEqual(row, [1, 2, 3, 4])
        self.assertIsNot(told[0], told[1])
        told[0].append("more")
        told.append("more")
        self.assert_same(do(book, deeds), [sums_on(A, row), sums_on(A, row), None])
        deeds.clear()
        self.assert_same(book.log(), [("in", 3), "turned", "turned", "retable", ("out", 3)] * 2)
        for one in ([5], [1, 2]):
            told = do(book, [("turned", A, one)])
            told[0][0] = "other"
            self.assertNotIn("other", one)

    def test_told_logs(self):
        book = Book()
        do(book, [("plan_for", A, 2)])
        told = book.log()
        told.append("more")
        told[0] = "other"
        self.assert_same(book.log(), [("in", 1), "plan_for", ("out", 1)])


if __name__ == "__main__":
    unittest.main()
