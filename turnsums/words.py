"""The constants that several files, and their callers, need."""

SHORTS = (1, 2, 3, 4)

TABLE = (1, 3)

PRIMES = (97, 193, 241, 257, 337, 421, 577, 2521)

BOOK = 6
