"""A desk: texts of what is asked of a book, and of its answers."""

from turnsums.book import Book
from turnsums.desktexts import all_rows
from turnsums.errors import BadGround, BadLength, NoRoot, NoShare, NotKept
from turnsums.plantexts import plan_text
from turnsums.products import round_by, straight_by
from turnsums.rests import Rests
from turnsums.roots import Roots
from turnsums.steps import cost_of

FIRST_PRIME = 97

DONE = "done"


def worth_on(ground, numbers):
    """The worth of a ground that a tuple of numbers writes, None where it writes none."""
    worth = numbers
    if isinstance(ground, Rests) and len(numbers) == 1:
        worth = numbers[0]
    return worth if ground.is_worth(worth) else None


def worths_on(ground, row):
    """The worths of a ground that tuples of numbers write, None where one writes none."""
    told = [worth_on(ground, numbers) for numbers in row]
    return None if None in told else told


def worth_text(worth):
    """The text of a worth of either ground."""
    if isinstance(worth, tuple):
        return ",".join([str(number) for number in worth])
    return str(worth)


def row_text(row):
    """The texts of worths, by blanks."""
    return " ".join([worth_text(worth) for worth in row])


def kept_text(book):
    """The text of what a book keeps."""
    texts = [f"{length}:{plan_text(plan)}" for name, length, plan, uses, learnt in book.all_kept()]
    return " ".join(texts) if texts else "-"


class Desk:
    """A new book, and the ground that is asked of it."""

    def __init__(self):
        self.book = Book()
        self.ground = Rests(FIRST_PRIME)

    def by_worths(self, word, rows):
        """The answer to a word with rows of worths; as each is refused."""
        rows = [worths_on(self.ground, row) for row in rows]
        if None in rows:
            return "no worth"
        if word == "turn":
            return row_text(self.book.turned(self.ground, rows[0]))
        if word == "back":
            return row_text(self.book.turned(self.ground, rows[0], back=True))
        if word == "round":
            return row_text(round_by(self.ground, rows[0], rows[1]))
        return row_text(straight_by(self.ground, rows[0], rows[1]))

    def by_change(self, word, told):
        """The answer to a word that changes the ground, the table or what is kept; as each is refused."""
        if word == "rests":
            self.ground = Rests(told[0])
        elif word == "roots":
            self.ground = Roots(told[0])
        elif word == "learn":
            self.book.learn(self.ground, told[0])
        elif word == "forget":
            self.book.forget(self.ground, told[0])
        else:
            self.book.retable((told[0], told[1]))
        return DONE

    def tell(self, word, told):
        """The answer to a row; as each is refused."""
        if word in ("turn", "back", "round", "straight"):
            return self.by_worths(word, told)
        if word == "plan":
            return plan_text(self.book.plan_for(self.ground, told[0]))
        if word == "cost":
            plan = self.book.plan_for(self.ground, told[0])
            return str(cost_of(plan, table=self.book.table_now()))
        if word == "kept":
            return kept_text(self.book)
        if word == "spent":
            return str(self.book.spent())
        return self.by_change(word, told)

    def answer(self, word, told):
        """The answer to a row, also where it's refused."""
        try:
            return self.tell(word, told)
        except BadGround:
            return "refused BadGround"
        except NoRoot:
            return "refused NoRoot"
        except NoShare:
            return "refused NoShare"
        except BadLength:
            return "refused BadLength"
        except NotKept:
            return "refused NotKept"


def answers(text):
    """The list of the answers to all rows of a text, by a new book; BadLine(k)."""
    rows = all_rows(text)
    desk = Desk()
    return [desk.answer(word, told) for word, told in rows]
