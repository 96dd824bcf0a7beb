"""Papers that show that a PLAN costs least: bounds (length, stretch, cost)."""

from turnsums.choosing import best_by_kind, cost_by, makings_of
from turnsums.numbers import is_whole
from turnsums.plans import plan_length
from turnsums.steps import cost_of
from turnsums.words import TABLE


def least_paper(ground, length, *, table=TABLE, stretch=True):
    """A list of bounds that shows_least takes with the best plan; NoRoot(length)."""
    costs = best_by_kind(ground, length, table, stretch)[1]
    return [(kind[1], kind[0], costs[kind]) for kind in costs]


def is_bound(ground, thing):
    """Whether a thing is (length, stretch, cost), of a length of which the ground has a root."""
    if not isinstance(thing, tuple) or len(thing) != 3:
        return False
    length, stretch, cost = thing
    if not is_whole(length) or not isinstance(stretch, bool) or not is_whole(cost):
        return False
    return length >= 1 and cost >= 0 and ground.has_root(length)


def is_low_enough(ground, kind, costs, table):
    """Whether the bound of a kind is no greater than what any making costs, by bounds that are all there."""
    for making in makings_of(ground, kind):
        if not all([part in costs for part in making[1]]):
            return False
        if costs[kind] > cost_by(making, kind[1], costs, table):
            return False
    return True


def shows_least(ground, plan, thing, *, table=TABLE, stretch=True):
    """Whether a thing is a list of bounds that shows that the plan costs least."""
    if not isinstance(thing, list) or not all([is_bound(ground, part) for part in thing]):
        return False
    costs = {(part[1], part[0]): part[2] for part in thing}
    # Two bounds of one kind would stand in one place.
    if len(costs) != len(thing):
        return False
    if costs.get((stretch, plan_length(plan))) != cost_of(plan, table=table):
        return False
    return all([is_low_enough(ground, kind, costs, table) for kind in costs])
