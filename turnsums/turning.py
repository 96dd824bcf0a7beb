"""Turnings by PLANs, what is made for them, and the turnings of which they are made."""

from turnsums.errors import BadLength, NoRoot
from turnsums.numbers import generator, power_rest
from turnsums.plainly import plain_turning, turned_about
from turnsums.plans import plan_length, plan_lengths
from turnsums.shorts import short_turning
from turnsums.work import Work


def by_plain(work, plan, row):
    """The turning of a row by a plain PLAN."""
    return plain_turning(work, row)


def by_short(work, plan, row):
    """The turning of a row by a short PLAN."""
    return short_turning(work, row)


def one_by_one(ground, one, other):
    """The products of what stands at one place in two rows of like length."""
    return [ground.product_of(worth, by) for worth, by in zip(one, other)]


def twisted(work, row, at, length):
    """The row with its b-th worth times the root of the length at at * b, none at or b 0."""
    if at == 0:
        return row
    roots = [work.root_at(length, at * place) for place in range(1, len(row))]
    return row[:1] + one_by_one(work, row[1:], roots)


def by_split(work, plan, row):
    """The turning of a row by two factors."""
    first, second = plan[1], plan[2]
    many = plan_length(first)
    apart = []
    for at in range(many):
        apart.append(twisted(work, turned(work, second, row[at::many]), at, len(row)))
    size = len(row) // many
    told = [turned(work, first, [beside[at] for beside in apart]) for at in range(size)]
    return [told[place % size][place // size] for place in range(len(row))]


def by_parts(work, plan, row):
    """The turning of a row by two factors without a divisor in common."""
    first, second = plan[1], plan[2]
    many = plan_length(first)
    size = plan_length(second)
    apart = []
    for at in range(size):
        taken = [row[(size * place + many * at) % len(row)] for place in range(many)]
        apart.append(turned(work, first, taken))
    told = [turned(work, second, [beside[at] for beside in apart]) for at in range(many)]
    return [told[place % many][place % size] for place in range(len(row))]


def shared_back(work, turning):
    """The row that was turned to this one."""
    return [work.shared_by(worth, len(turning)) for worth in turned_about(turning)]


def mixed(work, plan, one, other):
    """Both rows turned by the PLAN, multiplied one by one, and turned back."""
    turning = turned(work, plan, one)
    beside = turned(work, plan, other)
    return shared_back(work, turned(work, plan, one_by_one(work, turning, beside)))


def by_powers(work, plan, row):
    """The turning of a row of prime length, its places but the first as powers of the generator."""
    length = plan[1]
    base = generator(length)
    rising = [power_rest(base, power, length) for power in range(length - 1)]
    # The powers come round at length less 1, so those below 0 are the same ones the other way about.
    falling = turned_about(rising)
    roots = [work.root_at(length, power) for power in falling]
    sums = mixed(work, plan[2], [row[place] for place in rising], roots)
    told = list(row)
    for place, worth in zip(falling, sums):
        told[place] = work.sum_of(row[0], worth)
    for worth in row[1:]:
        told[0] = work.sum_of(told[0], worth)
    return told


def by_stretch(work, plan, row):
    """The turning of a row by a longer one, j * k told by halves of squares."""
    length = plan[1]
    size = plan_length(plan[2])
    nought = work.worth_of(0)
    halves = [at * (at - 1) // 2 for at in range(2 * length - 1)]
    falling = [work.root_at(length, -half) for half in halves[:length]]
    taken = one_by_one(work, row, falling)
    roots = [work.root_at(length, half) for half in halves]
    sums = mixed(work, plan[2], taken[::-1] + [nought] * (size - length), roots + [nought] * (size - len(roots)))
    return [work.product_of(sums[length - 1 + at], root) for at, root in enumerate(falling)]


FORMS = {
    "plain": by_plain,
    "short": by_short,
    "split": by_split,
    "parts": by_parts,
    "powers": by_powers,
    "stretch": by_stretch,
}


def turned(work, plan, row):
    """The turning of a row by a PLAN; it's put behind those made for it in the work's ways."""
    form = FORMS[plan[0]]
    turning = form(work, plan, row)
    # Copies, since a row may be told in several ways and each told list is the asker's own.
    work.ways.append((plan, list(row), list(turning)))
    return turning


def check_roots(ground, plan):
    """NoRoot(length) of the first of the plan's lengths without a root."""
    for length in plan_lengths(plan):
        if not ground.has_root(length):
            raise NoRoot(length)


def check_turning(ground, plan, row):
    """BadLength(len(row)); NoRoot(length) as check_roots."""
    if len(row) != plan_length(plan):
        raise BadLength(len(row))
    check_roots(ground, plan)


def counted(ground, plan, row, *, back=False):
    """(The turning of a row by a PLAN, (sums, products)); BadLength, NoRoot, NoShare."""
    check_turning(ground, plan, row)
    work = Work(ground)
    told = turned(work, plan, list(row))
    if back:
        told = shared_back(work, told)
    return told, (work.sums, work.products)


def turned_by(ground, plan, row, *, back=False):
    """What plain_turning tells, done by the PLAN; BadLength, NoRoot, NoShare."""
    return counted(ground, plan, row, back=back)[0]


def turned_or_plain(ground, plan, row, *, back=False):
    """What turned_by tells by a PLAN, and plain_turning where it's None; refused as these are."""
    if plan is None:
        return plain_turning(ground, row, back=back)
    return turned_by(ground, plan, row, back=back)


def ways_of(ground, plan, row):
    """The triples (PLAN, row, turning) of all turnings made, the plan's own last; BadLength, NoRoot."""
    check_turning(ground, plan, row)
    work = Work(ground)
    turned(work, plan, list(row))
    return work.ways
