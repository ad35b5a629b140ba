"""The deeds of two editors of one book, put together where they don't meet."""

from twainkeep.deeds import all_done
from twainkeep.hanging import caught, deeds_besides
from twainkeep.touching import share, touched_by_each


def meets_of(ones, others):
    pairs = []
    for i, one in enumerate(ones):
        for j, other in enumerate(others):
            if share(one, other):
                pairs.append((i, j))
    return tuple(pairs)


def merged(book, ones, others):
    # Each row is done by itself ahead of all else, for its refusals and for what its deeds touch there.
    rows = touched_by_each(book, ones)
    other_rows = touched_by_each(book, others)
    meets = meets_of(rows, other_rows)
    left = caught(other_rows, sorted(set([j for i, j in meets])))
    made = all_done(book, ones + deeds_besides(others, left))
    return (made, meets, left)
