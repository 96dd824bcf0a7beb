"""Grounds, rows and plans that several test files use, and turnings of their own to hold them against."""

from turnsums.rests import Rests
from turnsums.roots import Roots

GROUNDS = tuple(Rests(prime) for prime in (13, 43, 97, 157, 241, 421, 2521, 3613)) + tuple(
    Roots(order) for order in (1, 2, 6, 12, 18, 20, 24, 30))


def plain(n):
    return ("plain", n)


def short(n):
    return ("short", n)


def split(first, second):
    return ("split", first, second)


def parts(first, second):
    return ("parts", first, second)


def powers(n, inner):
    return ("powers", n, inner)


def stretch(n, inner):
    return ("stretch", n, inner)


def split_deep(levels):
    """So many deep, of length 2 to that and 1 more."""
    plan = short(2)
    for _ in range(levels):
        plan = split(short(2), plan)
    return plan


def stretch_deep(*sizes):
    """Stretches, each in the next one, the last one plain."""
    plan = plain(sizes[-1])
    for size in sizes[-2::-1]:
        plan = stretch(size, plan)
    return plan


# Each form alone, with its text.
FORMS = (
    (plain(1), "p1"), (plain(2), "p2"), (plain(5), "p5"), (plain(12), "p12"),
    (short(1), "s1"), (short(2), "s2"), (short(3), "s3"), (short(4), "s4"),
    (split(short(2), plain(3)), "(s2*p3)"), (split(plain(3), short(2)), "(p3*s2)"),
    (split(short(4), short(3)), "(s4*s3)"), (split(short(2), short(2)), "(s2*s2)"),
    (split(plain(3), plain(3)), "(p3*p3)"), (split(plain(6), short(2)), "(p6*s2)"),
    (parts(short(3), short(4)), "(s3.s4)"), (parts(short(4), plain(3)), "(s4.p3)"),
    (parts(short(2), plain(15)), "(s2.p15)"), (parts(plain(5), short(2)), "(p5.s2)"),
    (powers(3, short(2)), "(3^s2)"), (powers(5, short(4)), "(5^s4)"), (powers(7, plain(6)), "(7^p6)"),
    (powers(13, plain(12)), "(13^p12)"),
    (stretch(2, short(3)), "(2~s3)"), (stretch(2, short(4)), "(2~s4)"), (stretch(3, plain(6)), "(3~p6)"),
    (stretch(4, plain(12)), "(4~p12)"), (stretch(5, plain(10)), "(5~p10)"), (stretch(6, plain(12)), "(6~p12)"),
    (stretch(2, plain(30)), "(2~p30)"),
)

# Forms in forms.
NESTED = (
    (split(split(short(2), short(3)), short(4)), "((s2*s3)*s4)"),
    (split(short(4), split(short(3), short(2))), "(s4*(s3*s2))"),
    (parts(split(short(2), short(2)), parts(short(3), plain(5))), "((s2*s2).(s3.p5))"),
    (split(parts(short(2), short(3)), parts(short(3), short(2))), "((s2.s3)*(s3.s2))"),
    (powers(7, parts(short(2), short(3))), "(7^(s2.s3))"),
    (powers(7, split(short(2), powers(3, short(2)))), "(7^(s2*(3^s2)))"),
    (powers(5, split(short(2), short(2))), "(5^(s2*s2))"),
    (powers(3, stretch(2, short(4))), "(3^(2~s4))"),
    (powers(43, parts(short(2), plain(21))), "(43^(s2.p21))"),
    (stretch(3, parts(short(2), short(3))), "(3~(s2.s3))"),
    (stretch(3, split(short(2), powers(3, short(2)))), "(3~(s2*(3^s2)))"),
    (stretch(2, stretch(3, stretch(6, parts(short(3), short(4))))), "(2~(3~(6~(s3.s4))))"),
    (split(powers(3, short(2)), stretch(2, short(3))), "((3^s2)*(2~s3))"),
    (parts(stretch(3, plain(6)), split(short(2), stretch(2, short(4)))), "((3~p6).(s2*(2~s4)))"),
    (parts(short(2), split(plain(3), powers(3, plain(2)))), "(s2.(p3*(3^p2)))"),
    (split(split_deep(2), split_deep(1)), "((s2*(s2*s2))*(s2*s2))"),
    (powers(5, stretch(4, stretch(12, plain(24)))), "(5^(4~(12~p24)))"),
)

# The edges: a row of 60, a stretch to 240, nine deep.
GREAT = (
    (plain(60), "p60"),
    (parts(plain(5), plain(12)), "(p5.p12)"),
    (split(plain(6), plain(10)), "(p6*p10)"),
    (stretch(60, plain(120)), "(60~p120)"),
    (stretch(60, split(plain(15), plain(16))), "(60~(p15*p16))"),
    (stretch(60, plain(240)), "(60~p240)"),
    (split_deep(9), "(s2*" * 9 + "s2" + ")" * 9),
)


def roots_of(ground):
    """The number that all lengths with a root divide."""
    return ground.prime - 1 if isinstance(ground, Rests) else ground.order


def fitting(lengths):
    """Those of GROUNDS that have a root of each of these."""
    for ground in GROUNDS:
        if all(roots_of(ground) % length == 0 for length in lengths):
            yield ground


def row_on(ground, n, seed=0):
    """n worths without a likeness that would hide a wrong place."""
    if isinstance(ground, Rests):
        return [(5 * j * j + 3 * j + 1 + seed) * (j + 7) % ground.prime for j in range(n)]
    size = len(ground.worth_of(0))
    return [tuple((-1) ** (j + at) * (10 ** 12 - 7 ** ((j + seed) % 9) - at * j) for at in range(size))
            for j in range(n)]


def sums_on(ground, row, way=1):
    """The sums of a turning by the words of [7], none of them shared."""
    n = len(row)
    roots = [ground.root_at(n, way * power) for power in range(n)]
    told = []
    for k in range(n):
        worth = ground.worth_of(0)
        for j in range(n):
            worth = ground.sum_of(worth, ground.product_of(row[j], roots[j * k % n]))
        told.append(worth)
    return told


def length_in(plan):
    if plan[0] in ("split", "parts"):
        return length_in(plan[1]) * length_in(plan[2])
    return plan[1]


def lengths_of(plan):
    """The lengths of a plan and of all in it."""
    told = {length_in(plan)}
    for part in plan[1:]:
        if isinstance(part, tuple):
            told.update(lengths_of(part))
    return sorted(told)


def steps_by_the_list(plan):
    """The pair of [10], by its list."""
    word = plan[0]
    n = length_in(plan)
    if word == "plain":
        return (n * (n - 1), (n - 1) * (n - 1))
    if word == "short":
        return ((0, 0), (2, 0), (7, 1), (8, 1))[n - 1]
    sums, products = steps_by_the_list(plan[2])
    if word == "powers":
        return (3 * sums + 2 * (n - 1), 3 * products + 2 * (n - 1))
    m = length_in(plan[2])
    if word == "stretch":
        return (3 * sums, 3 * products + 2 * n + 2 * m)
    r = length_in(plan[1])
    first = steps_by_the_list(plan[1])
    more = (r - 1) * (m - 1) if word == "split" else 0
    return (r * sums + m * first[0], r * products + m * first[1] + more)


def plans_by_the_rules(ground, length, with_stretch):
    """The PLANs of [12], one by one, in their order."""
    size = roots_of(ground)
    yield plain(length)
    if length in (1, 2, 3, 4):
        yield short(length)
    for word in ("split", "parts"):
        for r in range(2, length):
            m = length // r
            if length % r == 0 and (word == "split" or not [d for d in range(2, r + 1) if r % d == 0 == m % d]):
                for first in plans_by_the_rules(ground, r, with_stretch):
                    for second in plans_by_the_rules(ground, m, with_stretch):
                        yield (word, first, second)
    if length >= 3 and all(length % d for d in range(2, length)) and size % (length - 1) == 0:
        for inner in plans_by_the_rules(ground, length - 1, with_stretch):
            yield powers(length, inner)
    if with_stretch and length >= 2:
        for m in range(2 * length - 1, 4 * length + 1):
            if size % m == 0:
                for inner in plans_by_the_rules(ground, m, False):
                    yield stretch(length, inner)
