"""All PLANs of a length that the rules make, and the one that costs least."""

from turnsums.errors import NoRoot
from turnsums.numbers import are_coprime, divisors, is_prime
from turnsums.steps import form_steps, priced
from turnsums.words import SHORTS, TABLE

# A kind is (stretch, length): PLANs of the length, made with or without stretch. A making is (word, kinds): one way in
# which PLANs of a kind are made, from any PLANs of the kinds in it.


def bare_makings(length):
    """The makings of a length with no PLAN in them."""
    told = [("plain", [])]
    if length in SHORTS:
        told.append(("short", []))
    return told


def pair_makings(length, stretch):
    """The makings of a length by two factors."""
    told = []
    for word in ("split", "parts"):
        for first in divisors(length)[1:-1]:
            second = length // first
            if word == "split" or are_coprime(first, second):
                told.append((word, [(stretch, first), (stretch, second)]))
    return told


def stretch_makings(ground, length):
    """The makings of a length by a longer one, which has no stretch in it."""
    sizes = [size for size in range(2 * length - 1, 4 * length + 1) if ground.has_root(size)]
    return [("stretch", [(False, size)]) for size in sizes]


def makings_of(ground, kind):
    """All makings of a kind, in the order of all_plans."""
    stretch, length = kind
    told = bare_makings(length) + pair_makings(length, stretch)
    if length >= 3 and is_prime(length) and ground.has_root(length - 1):
        told.append(("powers", [(stretch, length - 1)]))
    if stretch and length >= 2:
        told.extend(stretch_makings(ground, length))
    return told


def kinds_for(ground, length, stretch):
    """All kinds that PLANs of a length are made from, each behind those in it, its own last; NoRoot(length)."""
    if not ground.has_root(length):
        raise NoRoot(length)
    seen = set()
    waiting = [(stretch, length)]
    while waiting:
        kind = waiting.pop()
        if kind not in seen:
            seen.add(kind)
            for making in makings_of(ground, kind):
                waiting.extend(making[1])
    # What is in a PLAN is shorter, or made without stretch: False is ahead of True.
    return sorted(seen)


def built(word, length, inner):
    """The PLAN of a word and a length with these in it."""
    if len(inner) == 2:
        return (word, inner[0], inner[1])
    return (word, length, *inner)


def plans_by(making, length, known):
    """The PLANs of a length by one making, known being those of each kind in it."""
    word, kinds = making
    rows = [[]]
    for kind in kinds:
        rows = [row + [plan] for row in rows for plan in known[kind]]
    return [built(word, length, row) for row in rows]


def all_plans(ground, length, *, stretch=True):
    """All PLANs of a length that the rules make, in their order; NoRoot(length)."""
    known = {}
    for kind in kinds_for(ground, length, stretch):
        plans = []
        for making in makings_of(ground, kind):
            plans.extend(plans_by(making, kind[1], known))
        known[kind] = plans
    return known[(stretch, length)]


def many_by(making, known):
    """How many PLANs one making makes, known being how many there are of each kind in it."""
    many = 1
    for kind in making[1]:
        many *= known[kind]
    return many


def how_many(ground, length, *, stretch=True):
    """How many PLANs all_plans would tell; NoRoot(length)."""
    known = {}
    for kind in kinds_for(ground, length, stretch):
        known[kind] = sum([many_by(making, known) for making in makings_of(ground, kind)])
    return known[(stretch, length)]


def cost_by(making, length, costs, table):
    """What a PLAN of a length by one making costs, costs being those of each kind in it."""
    word, kinds = making
    times, own = form_steps(word, length, [kind[1] for kind in kinds])
    return priced(own, table) + sum([many * costs[kind] for many, kind in zip(times, kinds)])


def best_by_kind(ground, length, table, stretch):
    """The dicts of the best PLAN and of the least cost of each kind for a length; NoRoot(length)."""
    plans = {}
    costs = {}
    for kind in kinds_for(ground, length, stretch):
        makings = makings_of(ground, kind)
        prices = [cost_by(making, kind[1], costs, table) for making in makings]
        costs[kind] = min(prices)
        # Of several the first goes, here as in each PLAN in it: so it's the first of all_plans, too.
        word, kinds = makings[prices.index(costs[kind])]
        plans[kind] = built(word, kind[1], [plans[part] for part in kinds])
    return plans, costs


def best_plan(ground, length, *, table=TABLE, stretch=True):
    """(PLAN, cost): the first of all_plans that costs least; NoRoot(length)."""
    plans, costs = best_by_kind(ground, length, table, stretch)
    return plans[(stretch, length)], costs[(stretch, length)]
