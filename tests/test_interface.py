"""Every name of the document's interface, its arguments as written, and point [2] over all of them."""

import importlib
import inspect
import pathlib
import unittest

from turnsums.words import BOOK, TABLE

# As the document writes them; a default behind its name.
FUNCTIONS = {
    "numbers": (
        "is_prime(thing)", "factors(number)", "divisors(number)", "are_coprime(one, other)", "inverse(number, by)",
        "totient(number)", "generator(prime)", "joined(rests, bys)"),
    "roots": ("wheel(order)",),
    "plainly": (
        "plain_turning(ground, row, *, back=False)", "turned_about(row)", "shows_turning(ground, row, thing)"),
    "plans": (
        "is_plan(thing)", "plan_length(plan)", "plan_lengths(plan)", "plan_fits(ground, plan)", "plan_depth(plan)"),
    "plantexts": ("plan_text(plan)", "plan_in(text)"),
    "turning": (
        "turned_by(ground, plan, row, *, back=False)", "counted(ground, plan, row, *, back=False)",
        "ways_of(ground, plan, row)"),
    "steps": ("steps_of(plan, *, back=False)", "cost_of(plan, *, table=TABLE, back=False)"),
    "choosing": (
        "all_plans(ground, length, *, stretch=True)", "how_many(ground, length, *, stretch=True)",
        "best_plan(ground, length, *, table=TABLE, stretch=True)"),
    "papers": (
        "least_paper(ground, length, *, table=TABLE, stretch=True)",
        "shows_least(ground, plan, thing, *, table=TABLE, stretch=True)"),
    "orders": (
        "is_order(thing)", "inverse_order(order)", "put_in_order(row, order)", "order_cycles(order)",
        "turned_order(parts)"),
    "products": (
        "round_plain(ground, one, other)", "straight_plain(ground, one, other)",
        "round_by(ground, one, other, *, plan=None)", "straight_by(ground, one, other, *, plan=None)",
        "wrapped(ground, row, length)", "wraps(one, other, length)"),
    "wholes": ("reach(one, other)", "whole_product(one, other, primes)", "primes_for(one, other)"),
    "directions": (
        "plain_all(ground, sizes, row, *, back=False)", "turn_all(ground, plans, row, *, back=False, order=())",
        "round_all(ground, sizes, one, other)", "round_all_by(ground, plans, one, other)",
        "into_parts(row, first, second)", "out_of_parts(row, first, second)"),
    "halves": (
        "is_even(thing)", "half_of(row)", "even_from(half)", "half_turning(ground, half, *, plan=None)",
        "half_back(ground, half, *, plan=None)"),
    "deeds": ("do(book, deeds)",),
    "desk": ("answers(text)",),
}
GROUND = (
    "has_root(self, length)", "is_worth(self, thing)", "worth_of(self, number)", "sum_of(self, one, other)",
    "gap_of(self, one, other)", "product_of(self, one, other)", "root_at(self, length, power)",
    "shared_by(self, worth, number)", "__eq__(self, other)", "__str__(self)", "__repr__(self)")
CLASSES = {
    ("rests", "Rests"): ("__init__(self, prime)",) + GROUND,
    ("roots", "Roots"): ("__init__(self, order)",) + GROUND,
    ("places", "Place"): (
        "__init__(self, ground, row)", "step(self, part)", "unstep(self)", "unsplit(self)", "parts(self)",
        "worths(self)", "places(self)", "settle(self)", "is_settled(self)", "twin(self)"),
    ("book", "Book"): (
        "__init__(self, *, table=TABLE, most=BOOK)", "plan_for(self, ground, length)",
        "turned(self, ground, row, *, back=False)", "learn(self, ground, plan)", "forget(self, ground, length)",
        "retable(self, table)", "all_kept(self)", "uses_of(self, ground, length)", "spent(self)", "table_now(self)",
        "__len__(self)", "twin(self)", "log(self)", "is_open(self)"),
}


def written(name, asked):
    return name + str(inspect.signature(asked))


def with_values(text):
    return text.replace("TABLE", str(TABLE)).replace("BOOK", str(BOOK))


class Interface(unittest.TestCase):
    def test_functions(self):
        for module, texts in FUNCTIONS.items():
            found = importlib.import_module(f"turnsums.{module}")
            for text in texts:
                name = text.split("(")[0]
                self.assertEqual(written(name, getattr(found, name)), with_values(text))

    def test_classes(self):
        for (module, name), texts in CLASSES.items():
            found = vars(getattr(importlib.import_module(f"turnsums.{module}"), name))
            for text in texts:
                method = text.split("(")[0]
                self.assertEqual(written(method, found[method]), with_values(text))

    def test_files(self):
        package = pathlib.Path(__file__).resolve().parent.parent / "turnsums"
        for name in ("words errors numbers rests roots plainly plans plantexts turning steps choosing papers orders"
                     " places products wholes directions halves book deeds desk __init__").split():
            self.assertTrue((package / f"{name}.py").is_file(), name)


if __name__ == "__main__":
    unittest.main()
