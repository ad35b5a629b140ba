"""Links found from nothing: the way of the least cost through two rows of texts, and the deeds that link by it."""

from twainkeep.prices import measured, measured_cost, priced_steps


def pair_cost(ones, others, words, prices):
    return measured_cost(measured(ones, words, 0), measured(others, words, 1), prices)


def least_rests(left, right, prices):
    # From the end back, for each place: the least cost from there on, the step with which the first way of this
    # cost goes on, and where that leads. So of several ways the first is told by going ahead step by step.
    rests = {}
    for i in range(len(left), -1, -1):
        for j in range(len(right), -1, -1):
            steps = priced_steps(i, j, left, right, prices)
            choices = [(cost + rests[end][0], step, end) for step, cost, end in steps]
            # At the end of both rows there is no step and nothing to pay.
            rests[(i, j)] = min(choices, default=(0, None, None))
    return rests


def way_by(rests):
    way = []
    rest = rests[(0, 0)]
    while rest[1] is not None:
        way.append(rest[1])
        rest = rests[rest[2]]
    return tuple(way)


def grid_row(rests, i, n):
    # What is paid already, were the rest paid at its least. No step costs less than it takes off the least rest,
    # so none leads to a number greater by more than its cost.
    return tuple([rests[(0, 0)][0] - rests[(i, j)][0] for j in range(n + 1)])


def least_way(ones, others, words, prices):
    rests = least_rests(measured(ones, words, 0), measured(others, words, 1), prices)
    paper = tuple([grid_row(rests, i, len(others)) for i in range(len(ones) + 1)])
    return (rests[(0, 0)][0], way_by(rests), paper)


def names_at(names, places):
    return tuple([names[place] for place in places])


def link_deeds(ones, others, way, t):
    deeds = []
    for step in way:
        for link in step:
            if len(link[0]) > 0 and len(link[1]) > 0:
                deeds.append(("link", t, names_at(ones, link[0]), names_at(others, link[1])))
    return tuple(deeds)
