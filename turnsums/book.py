"""A book of PLANs, kept over many calls."""

from turnsums.choosing import best_plan
from turnsums.errors import NotKept
from turnsums.plans import plan_length
from turnsums.steps import cost_of
from turnsums.turning import check_roots, turned_by
from turnsums.words import BOOK, TABLE


def key_of(ground, length):
    """What a PLAN is kept by: grounds that are alike share it."""
    return (str(ground), length)


class Book:
    """PLANs kept by ground and length, at most so many, and what was spent on turnings by them."""

    def __init__(self, *, table=TABLE, most=BOOK):
        self.table = table
        self.most = most
        # Triples (PLAN, uses, learnt) by their keys, those that weren't used for longest ahead.
        self.kept = {}
        self.paid = 0
        # What log tells, and how many do's are at work, which deeds.py sees to.
        self.events = []
        self.working = 0

    def keep(self, key, plan, uses, learnt):
        """Keeps a PLAN as the last used; where there are too many then, the first is gone."""
        self.kept.pop(key, None)
        self.kept[key] = (plan, uses, learnt)
        if len(self.kept) > self.most:
            del self.kept[list(self.kept)[0]]

    def chosen(self, ground, length):
        """The PLAN that is kept, else the best one by the table; keeps nothing; NoRoot(length)."""
        key = key_of(ground, length)
        if key in self.kept:
            return self.kept[key][0]
        return best_plan(ground, length, table=self.table)[0]

    def use(self, ground, length, plan):
        """One use more of the PLAN that was chosen, which is kept from now on."""
        key = key_of(ground, length)
        uses, learnt = 0, False
        if key in self.kept:
            uses, learnt = self.kept[key][1:]
        self.keep(key, plan, uses + 1, learnt)

    def plan_for(self, ground, length):
        """The PLAN that is kept, else the best one by the table, kept from now on; NoRoot(length)."""
        plan = self.chosen(ground, length)
        self.use(ground, length, plan)
        return plan

    def turned(self, ground, row, *, back=False):
        """The turning of a row by plan_for, whose cost is spent; NoRoot(n), NoShare(n)."""
        plan = self.chosen(ground, len(row))
        told = turned_by(ground, plan, row, back=back)
        # Only now, since a share that is refused changes nothing.
        self.use(ground, len(row), plan)
        self.paid += cost_of(plan, table=self.table, back=back)
        return told

    def learn(self, ground, plan):
        """Keeps this PLAN for its length, in the place of another one; NoRoot of its first length without a root."""
        check_roots(ground, plan)
        self.keep(key_of(ground, plan_length(plan)), plan, 0, True)

    def forget(self, ground, length):
        """The PLAN that is kept is gone; NotKept(length)."""
        key = key_of(ground, length)
        if key not in self.kept:
            raise NotKept(length)
        del self.kept[key]

    def retable(self, table):
        """This table from now on; all that aren't learnt are gone."""
        self.table = table
        self.kept = {key: self.kept[key] for key in self.kept if self.kept[key][2]}

    def all_kept(self):
        """The list of (str of ground, length, PLAN, uses, learnt), those that weren't used for longest ahead."""
        return [key + self.kept[key] for key in self.kept]

    def uses_of(self, ground, length):
        """How often the PLAN that is kept was used, 0 where none is."""
        key = key_of(ground, length)
        return self.kept[key][1] if key in self.kept else 0

    def spent(self):
        """What all turnings cost, from the first on."""
        return self.paid

    def table_now(self):
        """The table by which PLANs are chosen."""
        return self.table

    def __len__(self):
        return len(self.kept)

    def log(self):
        """For each do ("in", how many), the words of those done and ("out", how many of them)."""
        return list(self.events)

    def is_open(self):
        """Whether no do is at work."""
        return self.working == 0

    def twin(self):
        """Another one, alike in all."""
        other = Book(table=self.table, most=self.most)
        other.kept = {key: self.kept[key] for key in self.kept}
        other.paid = self.paid
        other.events = list(self.events)
        return other
