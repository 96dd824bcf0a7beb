"""The constants, kind by kind."""

import unittest

from turnsums.words import BOOK, PRIMES, SHORTS, TABLE

TOLD = (
    (SHORTS, (1, 2, 3, 4)),
    (TABLE, (1, 3)),
    (PRIMES, (97, 193, 241, 257, 337, 421, 577, 2521)),
)


class Words(unittest.TestCase):
    def test_tuples_of_whole_numbers(self):
        for constant, told in TOLD:
            self.assertIs(type(constant), tuple)
            self.assertEqual(constant, told)
            for number in constant:
                self.assertIs(type(number), int)

    def test_book(self):
        self.assertIs(type(BOOK), int)
        self.assertEqual(BOOK, 6)


if __name__ == "__main__":
    unittest.main()
