"""The refusals' classes and their one field."""

import unittest

from turnsums import errors
from turnsums.errors import TurnError

NAMES = (
    "NoInverse NotCoprime BadGround NoRoot NoShare BadLength BadText BadStep NotDone"
    " TooSmall BadOrder NotEven NotKept BadDeed BadLine"
).split()
CLASSES = [getattr(errors, name) for name in NAMES]


class Refusals(unittest.TestCase):
    def test_turn_error_stands_under_value_error(self):
        self.assertEqual(TurnError.__bases__, (ValueError,))

    def test_each_stands_straight_under_turn_error(self):
        self.assertEqual(len(set(CLASSES)), 15)
        for refusal in CLASSES:
            self.assertEqual(refusal.__bases__, (TurnError,))

    def test_none_stands_under_another_one(self):
        for refusal in CLASSES:
            for other in CLASSES:
                self.assertEqual(issubclass(refusal, other), refusal is other)
            self.assertFalse(issubclass(TurnError, refusal))

    def test_what_is_the_very_thing(self):
        for refusal in [TurnError, *CLASSES]:
            for thing in (0, -5, 10 ** 6, 10 ** 5000, True, None, "a b", "", [1, [2]], (1, 2), ()):
                self.assertIs(refusal(thing).what, thing)
                self.assertIs(refusal(what=thing).what, thing)

    def test_what_is_needed(self):
        for refusal in [TurnError, *CLASSES]:
            with self.assertRaises(TypeError):
                refusal()

    def test_raised_and_caught(self):
        for refusal in [TurnError, *CLASSES]:
            for above in (refusal, TurnError, ValueError):
                with self.assertRaises(above) as caught:
                    raise refusal("thing")
                self.assertIs(type(caught.exception), refusal)
                self.assertEqual(caught.exception.what, "thing")


if __name__ == "__main__":
    unittest.main()
