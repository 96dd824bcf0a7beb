"""PLANs as texts, and the PLANs that texts write."""

from turnsums.errors import BadText
from turnsums.plans import is_plan

FIGURES = "0123456789"

SIGNS = {"plain": "p", "short": "s", "split": "*", "parts": ".", "powers": "^", "stretch": "~"}


def plan_text(plan):
    """The text of a PLAN."""
    sign = SIGNS[plan[0]]
    if len(plan) == 2:
        return f"{sign}{plan[1]}"
    first = plan_text(plan[1]) if isinstance(plan[1], tuple) else str(plan[1])
    return f"({first}{sign}{plan_text(plan[2])})"


def word_of(sign):
    """The word whose sign it is, None where it's none's."""
    for word in SIGNS:
        if SIGNS[word] == sign:
            return word
    return None


def pieces_of(text):
    """The text cut into numbers, bare PLANs and single signs."""
    pieces = []
    start = 0
    while start < len(text):
        end = start + 1
        if text[start] in "ps" + FIGURES:
            while end < len(text) and text[end] in FIGURES:
                end += 1
        pieces.append(text[start:end])
        start = end
    return pieces


def number_in(figures):
    """The number from 1 that plain figures write, None where they write none."""
    if figures == "" or figures[0] == "0":
        return None
    return int(figures)


def part_in(piece):
    """The number, or the pair of a word and a number, that a piece writes; of a sign itself."""
    if piece[0] in FIGURES:
        return number_in(piece)
    if piece[0] in "ps":
        return (word_of(piece[0]), number_in(piece[1:]))
    return piece


def bracket_plan(parts):
    """The PLAN that the last parts write, from their open bracket on, None where they write none."""
    if len(parts) < 4 or parts[-4] != "(":
        return None
    # Whatever stands in a wrong place makes no PLAN, so nothing else is asked of it.
    made = (word_of(parts[-2]), parts[-3], parts[-1])
    return made if is_plan(made) else None


def plan_in(text):
    """The PLAN whose text it is; BadText(text)."""
    # Open brackets wait in a list, so that a text of brackets alone makes no deep calls.
    parts = []
    for piece in pieces_of(text):
        if piece != ")":
            parts.append(part_in(piece))
            continue
        made = bracket_plan(parts)
        if made is None:
            raise BadText(text)
        parts = parts[:-4] + [made]
    if len(parts) != 1 or not is_plan(parts[0]):
        raise BadText(text)
    return parts[0]
