"""Turnings told plainly, sum by sum."""


def sum_at(ground, row, roots, place):
    """What stands at a place of the turning, roots being the row of all powers."""
    # The first worth is times the power 0, which is one, and so is each one at the place 0: no products there.
    told = row[0]
    for at in range(1, len(row)):
        worth = row[at]
        if place > 0:
            worth = ground.product_of(worth, roots[at * place % len(row)])
        told = ground.sum_of(told, worth)
    return told


def plain_turning(ground, row, *, back=False):
    """The turning of a row, or the row that was turned to it; NoRoot(n), NoShare(n)."""
    length = len(row)
    way = -1 if back else 1
    # Each root is asked for once: the powers come round at the length.
    roots = [ground.root_at(length, way * power) for power in range(length)]
    sums = [sum_at(ground, row, roots, place) for place in range(length)]
    if back:
        return [ground.shared_by(worth, length) for worth in sums]
    return sums


def turned_about(row):
    """The first worth, then the others from the last one on."""
    return [row[-place % len(row)] for place in range(len(row))]


def shows_turning(ground, row, thing):
    """Whether a thing is just the list that plain_turning tells; NoRoot(n)."""
    # Told first, so that it's refused whatever the thing is.
    turning = plain_turning(ground, row)
    if not isinstance(thing, list):
        return False
    # == alone would take True for 1, inside tuples too.
    return all([ground.is_worth(part) for part in thing]) and thing == turning
