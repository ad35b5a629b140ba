"""States: which parts are alone, lacking, stale or in step."""

from twainkeep.books import part_of


def state_in_link(link, side, moments):
    # What a side has missed is what befell the other one since the link was told in step.
    seen = list(link[3][1 - side])
    for name in link[1 - side]:
        seen.extend(moments[name])
    since = min([moment for moment in seen if moment > link[2]], default=None)
    return ("step",) if since is None else ("stale", since)


def states_by_name(book):
    parts = book[0] + book[1]
    found = dict([(part[0], ("lacking",)) for part in parts])
    for name in book[3]:
        found[name] = ("alone",)
    moments = dict([(part[0], part[2]) for part in parts])
    for link in book[2]:
        for side in (0, 1):
            state = state_in_link(link, side, moments)
            for name in link[side]:
                found[name] = state
    return found


def state_of(book, name):
    part_of(book, name)
    return states_by_name(book)[name]


def states(book):
    found = states_by_name(book)
    left = tuple([(part[0], found[part[0]]) for part in book[0]])
    right = tuple([(part[0], found[part[0]]) for part in book[1]])
    return (left, right)


def names_lacking(rows):
    return tuple([name for name, state in rows if state == ("lacking",)])


def lacking(book):
    rows = states(book)
    return (names_lacking(rows[0]), names_lacking(rows[1]))


def stale(book):
    found = states_by_name(book)
    rows = sorted([(state[1], name) for name, state in found.items() if state[0] == "stale"])
    return tuple([(name, since) for since, name in rows])


def in_step(book):
    found = states_by_name(book)
    return all([state in (("step",), ("alone",)) for state in found.values()])
