"""What a book should tell, reckoned in a way of its own: a list of rows, searched through."""

from samples import length_in, steps_by_the_list, sums_on
from turnsums.choosing import best_plan


def cost(plan, table, back=False):
    sums, products = steps_by_the_list(plan)
    return table[0] * sums + table[1] * (products + (length_in(plan) if back else 0))


class Reckoning:
    def __init__(self, table=(1, 3), most=6):
        self.table = table
        self.most = most
        # Rows [name, length, plan, uses, learnt], those longest not used ahead.
        self.rows = []
        self.spent = 0

    def find(self, ground, length):
        for row in self.rows:
            if row[:2] == [str(ground), length]:
                return row
        return None

    def put_last(self, row):
        self.rows = [other for other in self.rows if other[:2] != row[:2]] + [row]
        if len(self.rows) > self.most:
            self.rows = self.rows[1:]

    def plan_for(self, ground, length):
        row = self.find(ground, length)
        if row is None:
            row = [str(ground), length, best_plan(ground, length, table=self.table)[0], 0, False]
        self.put_last(row[:3] + [row[3] + 1, row[4]])
        return row[2]

    def turned(self, ground, worths, back=False):
        plan = self.plan_for(ground, len(worths))
        self.spent += cost(plan, self.table, back)
        if back:
            return [ground.shared_by(worth, len(worths)) for worth in sums_on(ground, worths, -1)]
        return sums_on(ground, worths)

    def learn(self, ground, plan):
        self.put_last([str(ground), length_in(plan), plan, 0, True])

    def forget(self, ground, length):
        self.rows.remove(self.find(ground, length))

    def retable(self, table):
        self.table = table
        self.rows = [row for row in self.rows if row[4]]

    def all_kept(self):
        return [tuple(row) for row in self.rows]


def state(book):
    """All that a book tells of itself."""
    return (book.all_kept(), book.spent(), book.table_now(), len(book), book.log(), book.is_open())
