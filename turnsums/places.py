"""Turnings in place, step by step."""

from turnsums.errors import BadStep, NoRoot, NotDone
from turnsums.orders import order_cycles, put_in_order, turned_order
from turnsums.plainly import plain_turning


def put_turned(ground, row, places, whole, at):
    """Turns the worths at the places, takes the q-th times the root of whole at at * q, and puts them there."""
    turning = plain_turning(ground, [row[place] for place in places])
    for digit, place in enumerate(places):
        row[place] = ground.product_of(turning[digit], ground.root_at(whole, at * digit))


class Place:
    """A row that is turned where it stands; NoRoot(n)."""

    def __init__(self, ground, row):
        if not ground.has_root(len(row)):
            raise NoRoot(len(row))
        self.ground = ground
        self.row = list(row)
        # Pairs of each step's part and the row that stood there ahead of it; no row here is changed any more.
        self.done = []
        self.settled = False

    def step(self, part):
        """One more step, by a part of what is unsplit; BadStep(part)."""
        whole = self.unsplit()
        # Where it's settled 1 is unsplit, which no part divides.
        if part < 2 or whole % part != 0:
            raise BadStep(part)
        gap = whole // part
        row = list(self.row)
        for start in range(0, len(row), whole):
            for at in range(gap):
                put_turned(self.ground, row, list(range(start + at, start + whole, gap)), whole, at)
        self.done.append((part, self.row))
        self.row = row

    def unstep(self):
        """Undoes the last step; NotDone("step")."""
        if self.settled or not self.done:
            raise NotDone("step")
        self.row = self.done.pop()[1]

    def unsplit(self):
        """What is left of the length when all steps' parts are split off."""
        left = len(self.row)
        for part in self.parts():
            left //= part
        return left

    def parts(self):
        """The parts of all steps."""
        return [part for part, row in self.done]

    def worths(self):
        """The worths as they stand."""
        return list(self.row)

    def places(self):
        """Where each worth belongs."""
        return turned_order(self.parts())

    def settle(self):
        """Puts each worth where it belongs; tells how many places have another's; NotDone("split"), ("settle")."""
        if self.unsplit() != 1:
            raise NotDone("split")
        if self.settled:
            raise NotDone("settle")
        order = self.places()
        self.row = put_in_order(self.row, order)
        self.settled = True
        return sum([len(cycle) for cycle in order_cycles(order)])

    def is_settled(self):
        """Whether it's settled."""
        return self.settled

    def twin(self):
        """Another one, alike in all."""
        other = Place(self.ground, self.row)
        other.done = list(self.done)
        other.settled = self.settled
        return other
