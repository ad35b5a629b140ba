"""Whether a way told with its cost and its paper is shown by them to be one of the least cost."""

from twainkeep.kinds import is_grid, is_number, is_row_of
from twainkeep.prices import measured, priced_steps, way_cost
from twainkeep.ways import is_way


def is_found(thing, m, n):
    if not is_row_of(thing, 3):
        return False
    return is_number(thing[0]) and is_way(thing[1], m, n) and is_grid(thing[2], m + 1, n + 1)


def no_step_is_short(grid, left, right, prices):
    for i, row in enumerate(grid):
        for j, number in enumerate(row):
            for step, cost, end in priced_steps(i, j, left, right, prices):
                if grid[end[0]][end[1]] - number > cost:
                    return False
    return True


def shows_found(ones, others, words, prices, told):
    # The form is asked ahead of all else, as nothing can be counted with things of other kinds.
    if not is_found(told, len(ones), len(others)):
        return False
    left = measured(ones, words, 0)
    right = measured(others, words, 1)
    cost = told[0]
    grid = told[2]
    if way_cost(told[1], left, right, prices) != cost:
        return False
    return grid[0][0] == 0 and grid[-1][-1] == cost and no_step_is_short(grid, left, right, prices)
