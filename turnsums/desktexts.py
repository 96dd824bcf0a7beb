"""The rows of the desk's texts: a word, and numbers, a PLAN or worths behind it."""

from turnsums.errors import BadLine, BadText
from turnsums.plans import plan_length, plan_lengths
from turnsums.plantexts import FIGURES, pieces_of, plan_in

# The bounds of the numbers that stand behind each word that takes nothing else.
BOUNDS = {
    "rests": ((0, 10000),),
    "roots": ((0, 10000),),
    "plan": ((1, 60),),
    "cost": ((1, 60),),
    "forget": ((1, 60),),
    "table": ((0, 1000), (0, 1000)),
    "kept": (),
    "spent": (),
}

# How many rows of worths stand behind each word that takes them.
ROWS = {"turn": 1, "back": 1, "round": 2, "straight": 2}

MOST_WORTHS = 60

MOST_NUMBER = 10 ** 9

MOST_PLAN = 60

MOST_WITHIN = 240


def number_within(text, least, most):
    """The number within bounds that a text writes in plain figures, None where it writes none."""
    figures = text.removeprefix("-")
    # So long a number is beyond all bounds, and Python refuses to read a very long one.
    if figures == "" or len(figures) > len(str(MOST_NUMBER)):
        return None
    if not all([sign in FIGURES for sign in figures]) or (figures[0] == "0" and text != "0"):
        return None
    number = int(text)
    return number if least <= number <= most else None


def numbers_in(words, bounds):
    """The list of the numbers that words write, each within its bounds, None where they don't."""
    if len(words) != len(bounds):
        return None
    told = [number_within(word, least, most) for word, (least, most) in zip(words, bounds)]
    return None if None in told else told


def worth_in(word):
    """The tuple of the numbers that a word writes by commas, None where it writes none."""
    told = [number_within(part, -MOST_NUMBER, MOST_NUMBER) for part in word.split(",")]
    return None if None in told else tuple(told)


def worths_in(words):
    """The list of tuples of numbers that words write, one to 60, None where they don't."""
    if not words or len(words) > MOST_WORTHS:
        return None
    told = [worth_in(word) for word in words]
    return None if None in told else told


def parted(words):
    """The lists of words ahead of, between and behind strokes."""
    told = [[]]
    for word in words:
        if word == "/":
            told.append([])
        else:
            told[-1].append(word)
    return told


def rows_in(words, many):
    """The list of so many rows of worths, parted by strokes, that words write, None where they don't."""
    rows = parted(words)
    if len(rows) != many:
        return None
    told = [worths_in(row) for row in rows]
    return None if None in told else told


def are_numbers_low(text):
    """Whether no number in a PLAN's text is beyond what stands in a PLAN."""
    # Asked ahead of all else: whether a far greater one is a prime would take too long to tell.
    numbers = [piece.lstrip("ps") for piece in pieces_of(text)]
    most = len(str(MOST_WITHIN))
    return all([len(number) <= most for number in numbers])


def plan_written(text):
    """The PLAN of a text, within the desk's bounds, None where there's none."""
    if not are_numbers_low(text):
        return None
    try:
        plan = plan_in(text)
    except BadText:
        return None
    if plan_length(plan) > MOST_PLAN or plan_lengths(plan)[-1] > MOST_WITHIN:
        return None
    return plan


def told_behind(word, words):
    """The list of what words write behind a first one, None where they aren't so written."""
    if word in BOUNDS:
        return numbers_in(words, BOUNDS[word])
    if word in ROWS:
        return rows_in(words, ROWS[word])
    if word == "learn" and len(words) == 1:
        plan = plan_written(words[0])
        return None if plan is None else [plan]
    return None


def row_in(text):
    """The pair of a row's word and the list of what stands behind it, None where it isn't so written."""
    # Blanks too many leave bare words, which nothing takes.
    words = text.split(" ")
    told = told_behind(words[0], words[1:])
    return None if told is None else (words[0], told)


def all_rows(text):
    """The pairs of all rows of a text; BadLine(k) of the first that isn't so written."""
    rows = text.split("\n") if text != "" else []
    told = [row_in(row) for row in rows]
    if None in told:
        raise BadLine(told.index(None))
    return told
