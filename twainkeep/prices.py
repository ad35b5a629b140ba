"""Prices, and what pairs of texts, steps and ways cost by them."""

from twainkeep.words import hits_of_places, places_known, size_of
from twainkeep.ways import passed, steps_from

# Where each price stands in a tuple of prices.
OUT = 0
MORE = 1
CROSS = 2
STRETCH = 3
ANCHOR = 4


def measured(texts, words, side):
    # All that a cost asks of a text, drawn from it once: each text stands in many steps.
    return [(size_of(text), places_known((text,), words, side)) for text in texts]


def size_of_all(texts):
    return sum([size for size, places in texts])


def places_of_all(texts):
    found = []
    for size, places in texts:
        found.extend(places)
    return found


def measured_cost(ones, others, prices):
    above_one = max(len(ones), len(others)) - 1
    difference = abs(size_of_all(ones) - size_of_all(others))
    found = hits_of_places(places_of_all(ones), places_of_all(others))
    return prices[MORE] * above_one + prices[STRETCH] * difference - prices[ANCHOR] * found


def link_cost(link, left, right, prices):
    if len(link[0]) == 0 or len(link[1]) == 0:
        return prices[OUT]
    ones = [left[place] for place in link[0]]
    others = [right[place] for place in link[1]]
    return measured_cost(ones, others, prices)


def step_cost(step, left, right, prices):
    cost = sum([link_cost(link, left, right, prices) for link in step])
    # A step of two links is a crossed one.
    return cost + prices[CROSS] if len(step) == 2 else cost


def way_cost(way, left, right, prices):
    return sum([step_cost(step, left, right, prices) for step in way])


def priced_steps(i, j, left, right, prices):
    found = []
    for step in steps_from(i, j, len(left), len(right)):
        counts = passed(step)
        end = (i + counts[0], j + counts[1])
        found.append((step, step_cost(step, left, right, prices), end))
    return found
