"""How many sums and products a turning by a PLAN takes, and what they cost."""

from turnsums.plans import inner_plans, plan_length
from turnsums.words import TABLE

SHORT_STEPS = {1: (0, 0), 2: (2, 0), 3: (7, 1), 4: (8, 1)}


def bare_steps(word, length):
    """The pair (sums, products) of plain and short."""
    if word == "short":
        return SHORT_STEPS[length]
    return (length * (length - 1), (length - 1) * (length - 1))


def form_steps(word, length, lengths):
    """How often each PLAN in one of the length is done, these being of the lengths, and the pair of the rest."""
    if not lengths:
        return [], bare_steps(word, length)
    if word == "powers":
        return [3], (2 * (length - 1), 2 * (length - 1))
    if word == "stretch":
        return [3], (0, 2 * length + 2 * lengths[0])
    first, second = lengths
    products = (first - 1) * (second - 1) if word == "split" else 0
    return [second, first], (0, products)


def steps_forth(plan):
    """The pair of a turning by a PLAN that isn't taken back."""
    inner = inner_plans(plan)
    times, own = form_steps(plan[0], plan_length(plan), [plan_length(part) for part in inner])
    sums, products = own
    for many, part in zip(times, inner):
        made = steps_forth(part)
        sums += many * made[0]
        products += many * made[1]
    return (sums, products)


def steps_of(plan, *, back=False):
    """The pair (sums, products) that counted tells, of whatever row."""
    sums, products = steps_forth(plan)
    if back:
        products += plan_length(plan)
    return (sums, products)


def priced(steps, table):
    """What a pair costs by a table."""
    return steps[0] * table[0] + steps[1] * table[1]


def cost_of(plan, *, table=TABLE, back=False):
    """What the steps of a PLAN cost by a table."""
    return priced(steps_of(plan, back=back), table)
