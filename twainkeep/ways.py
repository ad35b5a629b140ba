"""Ways through two rows of texts, of which only the places count: the steps there are, and which things are ways."""

from twainkeep.kinds import are_numbers, is_row_of

# How many texts of the left and of the right a step of one link takes.
SHAPES = ((0, 1), (1, 0), (1, 1), (1, 2), (1, 3), (2, 1), (3, 1))


def one_link(i, j, shape):
    return ((tuple(range(i, i + shape[0])), tuple(range(j, j + shape[1]))),)


def crossed(i, j):
    return (((i,), (j + 1,)), ((i + 1,), (j,)))


def passed(step):
    return (sum([len(ones) for ones, others in step]), sum([len(others) for ones, others in step]))


def steps_from(i, j, m, n):
    # Rising, so that of several that cost the same the first as tuples rise comes first.
    steps = [one_link(i, j, shape) for shape in SHAPES if i + shape[0] <= m and j + shape[1] <= n]
    if i + 2 <= m and j + 2 <= n:
        steps.append(crossed(i, j))
    return tuple(sorted(steps))


def is_link_of_places(thing):
    return is_row_of(thing, 2) and are_numbers(thing[0]) and are_numbers(thing[1])


def is_row_of_links(thing):
    return isinstance(thing, tuple) and all([is_link_of_places(each) for each in thing])


def is_way(thing, m, n):
    # The kinds are asked first, as to Python True is like 1, and some things can't be compared at all.
    if not isinstance(thing, tuple) or not all([is_row_of_links(each) for each in thing]):
        return False
    i = 0
    j = 0
    for step in thing:
        if step not in steps_from(i, j, m, n):
            return False
        counts = passed(step)
        i += counts[0]
        j += counts[1]
    return i == m and j == n
