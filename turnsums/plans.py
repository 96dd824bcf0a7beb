"""What a PLAN is, and what can be read off one."""

from turnsums.numbers import are_coprime, is_prime, is_whole
from turnsums.words import SHORTS


def bare_length(word, length):
    """The length of (word, length), 0 where that is no PLAN."""
    if not is_whole(length):
        return 0
    if word == "plain" and length >= 1:
        return length
    if word == "short" and length in SHORTS:
        return length
    return 0


def pair_length(word, first, second):
    """The length of split and parts, from the lengths in it, 0 where that is no PLAN."""
    if first < 2 or second < 2:
        return 0
    if word == "parts" and not are_coprime(first, second):
        return 0
    return first * second


def led_length(word, length, inner):
    """The length of powers and stretch, from the length in it, 0 where that is no PLAN."""
    if not is_whole(length):
        return 0
    # Where no PLAN is in it inner is 0, less than either of these takes.
    if word == "powers" and length >= 3 and inner == length - 1 and is_prime(length):
        return length
    if word == "stretch" and length >= 2 and inner >= 2 * length - 1:
        return length
    return 0


def length_if_plan(thing):
    """The length of a PLAN, and 0, which is none's, of anything else."""
    if not isinstance(thing, tuple):
        return 0
    if len(thing) == 2:
        return bare_length(thing[0], thing[1])
    if len(thing) != 3:
        return 0
    word, first, second = thing
    inner = length_if_plan(second)
    if word in ("split", "parts"):
        return pair_length(word, length_if_plan(first), inner)
    return led_length(word, first, inner)


def is_plan(thing):
    """Whether a thing is a PLAN."""
    return length_if_plan(thing) > 0


def plan_length(plan):
    """The length of the rows that a PLAN turns."""
    if plan[0] in ("split", "parts"):
        return plan_length(plan[1]) * plan_length(plan[2])
    return plan[1]


def inner_plans(plan):
    """The list of the PLANs that stand right in a PLAN."""
    return [part for part in plan[1:] if isinstance(part, tuple)]


def lengths_in(plan):
    """The lengths of a PLAN and of all in it, as often as they come."""
    found = [plan_length(plan)]
    for inner in inner_plans(plan):
        found.extend(lengths_in(inner))
    return found


def plan_lengths(plan):
    """The rising list of the lengths of a PLAN and of all in it, each once."""
    return sorted(set(lengths_in(plan)))


def plan_fits(ground, plan):
    """Whether the ground has a root of each of the plan's lengths."""
    return all([ground.has_root(length) for length in plan_lengths(plan)])


def plan_depth(plan):
    """0 of plain and short, else 1 more than the greater one in it."""
    inner = inner_plans(plan)
    if not inner:
        return 0
    return 1 + max([plan_depth(part) for part in inner])
