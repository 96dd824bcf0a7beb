"""Points [15] and [1] (c)."""

import unittest

from asking import Asking
from samples import roots_of, row_on, sums_on
from turnsums.errors import BadStep, NoRoot, NotDone
from turnsums.orders import turned_order
from turnsums.places import Place
from turnsums.plainly import plain_turning
from turnsums.rests import Rests
from turnsums.roots import Roots

GROUNDS = (Rests(2), Rests(7), Rests(31), Rests(97), Rests(241), Roots(1), Roots(6), Roots(12), Roots(24), Roots(30))


def splits_of(n):
    """All lists of parts from 2 with the product n."""
    if n == 1:
        yield []
    for part in range(2, n + 1):
        if n % part == 0:
            for rest in splits_of(n // part):
                yield [part] + rest


def cases():
    """Each ground and parts, for rows to 60."""
    for ground in GROUNDS:
        for n in (1, 2, 3, 4, 5, 6, 8, 12, 15, 16, 24, 30, 60):
            if roots_of(ground) % n == 0:
                for parts in list(splits_of(n))[:8]:
                    yield ground, n, parts


def stepped(ground, row, whole, part):
    """One step by the document's words, on a row that is handed back as another."""
    m = whole // part
    told = list(row)
    for start in range(0, len(row), whole):
        for i in range(m):
            turning = sums_on(ground, [row[start + i + m * j] for j in range(part)])
            for q in range(part):
                told[start + i + m * q] = ground.product_of(turning[q], ground.root_at(whole, i * q))
    return told


class State:
    """What a Place tells."""

    def __init__(self, place):
        self.told = (place.unsplit(), place.parts(), place.worths(), place.places(), place.is_settled())


class Asked(Asking):
    def assert_state(self, place, unsplit, parts, worths, settled=False):
        self.assert_same(place.unsplit(), unsplit)
        self.assert_same(place.parts(), parts)
        self.assert_same(place.worths(), worths)
        self.assert_same(place.places(), turned_order(parts))
        self.assert_same(place.is_settled(), settled)

    def assert_refused_unchanged(self, refusal, what, place, asked, *told):
        ahead = State(place).told
        self.assert_refused(refusal, what, asked, *told)
        self.assert_same(State(place).told, ahead)


class Steps(Asked, unittest.TestCase):
    def test_step_by_step(self):
        for ground, n, parts in cases():
            row = row_on(ground, n)
            place = Place(ground, row)
            self.assert_state(place, n, [], row)
            worths, whole = row, n
            for at, part in enumerate(parts):
                worths = stepped(ground, worths, whole, part)
                whole //= part
                self.assertIsNone(place.step(part))
                self.assert_state(place, whole, parts[:at + 1], worths)
            self.assertEqual(whole, 1)

    def test_in_the_end_the_turning_stands_there(self):
        for ground, n, parts in cases():
            row = row_on(ground, n)
            place = Place(ground, tuple(row))
            for part in parts:
                place.step(part)
            order = place.places()
            self.assertEqual(len(order), n)
            worths = place.worths()
            turning = sums_on(ground, row)
            # In the order told, ahead of settling.
            self.assertEqual([turning[k] for k in order], worths)
            told = place.settle()
            self.assert_same(told, len([i for i, k in enumerate(order) if i != k]))
            self.assert_state(place, 1, parts, turning, True)
            self.assertEqual(turning, plain_turning(ground, row))

    def test_as_told(self):
        place = Place(Rests(5), [1, 2, 3, 4])
        place.step(2)
        # 1 + 3, 2 + 4; 1 - 3, and 2 - 4 times the root 2.
        self.assert_state(place, 2, [2], [4, 1, 3, 1])
        place.step(2)
        self.assert_state(place, 1, [2, 2], [0, 3, 4, 2])
        self.assert_same(place.settle(), 2)
        self.assert_state(place, 1, [2, 2], [0, 4, 3, 2], True)

    def test_places_where_something_is_unsplit(self):
        place = Place(Rests(97), row_on(Rests(97), 24))
        self.assert_same(place.places(), [0])
        place.step(3)
        self.assert_same(place.places(), [0, 1, 2])
        place.step(2)
        self.assert_same(place.places(), [0, 3, 1, 4, 2, 5])

    def test_bad_steps(self):
        for ground in (Rests(97), Roots(24)):
            place = Place(ground, row_on(ground, 24))
            for done in (None, 2, 3, 4):
                if done is not None:
                    place.step(done)
                for part in range(-25, 50):
                    if part < 2 or place.unsplit() % part:
                        self.assert_refused_unchanged(BadStep, part, place, place.step, part)
            self.assertEqual(place.unsplit(), 1)
            place.settle()
            for part in (-2, -1, 0, 1, 2, 3, 24, 10 ** 9):
                self.assert_refused_unchanged(BadStep, part, place, place.step, part)

    def test_the_whole_at_once(self):
        for ground in (Rests(241), Roots(30)):
            n = 60 if roots_of(ground) == 240 else 30
            row = row_on(ground, n)
            place = Place(ground, row)
            place.step(n)
            self.assert_state(place, 1, [n], sums_on(ground, row))
            self.assert_same(place.settle(), 0)
            self.assert_state(place, 1, [n], sums_on(ground, row), True)

    def test_length_one(self):
        for ground in (Rests(2), Rests(97), Roots(1), Roots(30)):
            row = row_on(ground, 1)
            place = Place(ground, row)
            self.assert_state(place, 1, [], row)
            for part in (-1, 0, 1, 2):
                self.assert_refused_unchanged(BadStep, part, place, place.step, part)
            self.assert_refused_unchanged(NotDone, "step", place, place.unstep)
            self.assert_same(place.settle(), 0)
            self.assert_state(place, 1, [], row, True)
            self.assert_refused_unchanged(NotDone, "settle", place, place.settle)
            self.assert_refused_unchanged(NotDone, "step", place, place.unstep)
            self.assert_refused_unchanged(BadStep, 1, place, place.step, 1)

    def test_no_root(self):
        for ground in GROUNDS:
            for n in range(1, 61):
                if roots_of(ground) % n:
                    self.assert_refused(NoRoot, n, Place, ground, [ground.worth_of(0)] * n)


class Unsteps(Asked, unittest.TestCase):
    def test_what_stood_there_ahead(self):
        for ground, n, parts in cases():
            row = row_on(ground, n)
            place = Place(ground, row)
            states = []
            for part in parts:
                states.append(State(place).told)
                place.step(part)
            for state in states[::-1]:
                self.assertIsNone(place.unstep())
                self.assert_same(State(place).told, state)
            self.assert_state(place, n, [], row)
            self.assert_refused_unchanged(NotDone, "step", place, place.unstep)

    def test_worths_that_can_not_all_be_shared(self):
        for ground in (Roots(6), Roots(12), Roots(30)):
            n = roots_of(ground)
            row = [ground.worth_of(1)] + [ground.worth_of(0)] * (n - 1)
            for parts in splits_of(n):
                place = Place(ground, row)
                for part in parts:
                    place.step(part)
                for _ in parts:
                    place.unstep()
                self.assert_state(place, n, [], row)

    def test_other_steps_behind_an_unstep(self):
        for ground in (Rests(13), Roots(12)):
            row = row_on(ground, 12)
            place = Place(ground, row)
            place.step(4)
            place.unstep()
            place.step(3)
            place.step(2)
            place.unstep()
            place.step(4)
            self.assert_state(place, 1, [3, 4], stepped(ground, stepped(ground, row, 12, 3), 4, 4))
            place.settle()
            self.assertEqual(place.worths(), sums_on(ground, row))

    def test_none_is_done_or_settled(self):
        place = Place(Rests(97), row_on(Rests(97), 4))
        self.assert_refused_unchanged(NotDone, "step", place, place.unstep)
        place.step(2)
        place.step(2)
        place.settle()
        self.assert_refused_unchanged(NotDone, "step", place, place.unstep)
        self.assert_refused_unchanged(NotDone, "step", place, place.unstep)


class Settling(Asked, unittest.TestCase):
    def test_not_while_something_is_unsplit(self):
        for ground in (Rests(97), Roots(12)):
            place = Place(ground, row_on(ground, 12))
            self.assert_refused_unchanged(NotDone, "split", place, place.settle)
            place.step(2)
            self.assert_refused_unchanged(NotDone, "split", place, place.settle)
            place.step(3)
            self.assert_refused_unchanged(NotDone, "split", place, place.settle)
            place.step(2)
            self.assertEqual(place.settle(), 6)
            self.assert_refused_unchanged(NotDone, "settle", place, place.settle)

    def test_whatever_the_worths_are(self):
        for ground in (Rests(97), Roots(24)):
            for row in ([ground.worth_of(0)] * 24, [ground.worth_of(1)] * 24, row_on(ground, 24)):
                for parts in ([2, 12], [3, 8], [2, 2, 6], [24], [4, 6]):
                    place = Place(ground, row)
                    for part in parts:
                        place.step(part)
                    wanted = len([i for i, k in enumerate(turned_order(parts)) if i != k])
                    self.assert_same(place.settle(), wanted)
                    self.assertEqual(place.worths(), sums_on(ground, row))


class Copies(Asked, unittest.TestCase):
    def test_the_row_handed_in(self):
        for ground in (Rests(5), Roots(4)):
            row = row_on(ground, 4)
            kept = list(row)
            place = Place(ground, row)
            place.step(2)
            place.step(2)
            place.settle()
            self.assertEqual(row, kept)
            place = Place(ground, row)
            row[0] = "other"
            row.append("more")
            self.assert_state(place, 4, [], kept)
            place.step(4)
            place.settle()
            self.assertEqual(place.worths(), sums_on(ground, kept))

    def test_told_lists(self):
        place = Place(Rests(97), row_on(Rests(97), 12))
        twin = place.twin()
        for part in (None, 3, 4):
            if part is not None:
                place.step(part)
                twin.step(part)
            for asked in (place.parts, place.worths, place.places):
                wanted = asked()
                told = asked()
                self.assertIsNot(told, wanted)
                told.append("more")
                told[0] = "other"
                self.assert_same(asked(), wanted)
            self.assert_same(State(place).told, State(twin).told)
        place.settle()
        place.worths().clear()
        twin.settle()
        self.assert_same(State(place).told, State(twin).told)

    def test_told_lists_change_no_unstep(self):
        row = row_on(Rests(97), 12)
        place = Place(Rests(97), row)
        place.worths()[0] = "other"
        place.step(3)
        between = place.worths()
        place.worths().reverse()
        place.step(4)
        place.worths().clear()
        place.unstep()
        self.assertEqual(place.worths(), between)
        place.worths()[0] = "other"
        place.unstep()
        self.assertEqual(place.worths(), row)
        place.worths()[0] = "other"
        place.step(3)
        self.assertEqual(place.worths(), between)

    def test_the_same_question(self):
        place = Place(Roots(12), row_on(Roots(12), 12))
        place.step(2)
        self.assert_same(State(place).told, State(place).told)

    def test_two_to_which_the_same_was_done(self):
        for ground in (Rests(97), Roots(12)):
            one, other = [Place(ground, row_on(ground, 12)) for _ in range(2)]
            for deed in ("step", "unstep", "step", "step", "settle"):
                for place in (one, other):
                    if deed == "step":
                        place.step(3 if place.unsplit() == 12 else 4)
                    elif deed == "unstep":
                        place.unstep()
                    else:
                        place.settle()
                self.assert_same(State(one).told, State(other).told)


class Twins(Asked, unittest.TestCase):
    def test_alike_in_all(self):
        for ground, n, parts in cases():
            place = Place(ground, row_on(ground, n))
            for part in [None] + parts:
                if part is not None:
                    place.step(part)
                twin = place.twin()
                self.assertIsInstance(twin, Place)
                self.assertIsNot(twin, place)
                self.assert_same(State(twin).told, State(place).told)
            place.settle()
            twin = place.twin()
            self.assert_same(State(twin).told, State(place).told)
            self.assert_refused(NotDone, "settle", twin.settle)
            self.assert_refused(NotDone, "step", twin.unstep)

    def test_each_goes_its_own_way(self):
        for ground in (Rests(13), Roots(12)):
            row = row_on(ground, 12)
            place = Place(ground, row)
            place.step(3)
            between = State(place).told
            twin = place.twin()
            place.step(2)
            self.assert_same(State(twin).told, between)
            twin.unstep()
            self.assert_state(twin, 12, [], row)
            self.assert_state(place, 2, [3, 2], stepped(ground, stepped(ground, row, 12, 3), 4, 2))
            twin.step(12)
            twin.settle()
            self.assert_state(twin, 1, [12], sums_on(ground, row), True)
            place.unstep()
            self.assert_same(State(place).told, between)
            place.step(4)
            other = place.twin()
            other.settle()
            self.assertIs(place.is_settled(), False)
            self.assert_state(place, 1, [3, 4], stepped(ground, stepped(ground, row, 12, 3), 4, 4))
            place.unstep()
            place.unstep()
            self.assert_state(place, 12, [], row)
            self.assert_state(other, 1, [3, 4], sums_on(ground, row), True)


class Calls(Asking, unittest.TestCase):
    def test_by_name(self):
        place = Place(row=[1, 2, 3, 4], ground=Rests(5))
        place.step(part=4)
        place.settle()
        self.assertEqual(place.worths(), [0, 4, 3, 2])
        self.assert_refused(BadStep, 2, place.step, part=2)
        self.assert_refused(NoRoot, 3, Place, row=[0] * 3, ground=Rests(5))

    def test_each_method_stands_in_the_class_itself(self):
        for name in "step unstep unsplit parts worths places settle is_settled twin".split():
            self.assertIn(name, vars(Place))


if __name__ == "__main__":
    unittest.main()
