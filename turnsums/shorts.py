"""The short turnings, written out."""


def turned_two(work, row):
    """Two worths: the root is one less two."""
    return [work.sum_of(row[0], row[1]), work.gap_of(row[0], row[1])]


def turned_three(work, row):
    """Three worths, with one product: the three roots are nought together, so the last is told by the others."""
    first, second, third = row
    twisted = work.product_of(work.gap_of(second, third), work.root_at(3, 1))
    return [
        work.sum_of(work.sum_of(first, second), third),
        work.sum_of(work.gap_of(first, third), twisted),
        work.gap_of(work.gap_of(first, second), twisted),
    ]


def turned_four(work, row):
    """Four worths, with one product: those at even places and those at odd ones are two short turnings."""
    even, even_gap = turned_two(work, [row[0], row[2]])
    odd, odd_gap = turned_two(work, [row[1], row[3]])
    twisted = work.product_of(odd_gap, work.root_at(4, 1))
    first, third = turned_two(work, [even, odd])
    second, fourth = turned_two(work, [even_gap, twisted])
    return [first, second, third, fourth]


def short_turning(work, row):
    """The turning of one to four worths."""
    if len(row) == 4:
        return turned_four(work, row)
    if len(row) == 3:
        return turned_three(work, row)
    if len(row) == 2:
        return turned_two(work, row)
    return list(row)
