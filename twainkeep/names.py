"""The names of parts: 1 to 8 letters a to z."""

LETTERS = "abcdefghijklmnopqrstuvwxyz"
MOST_LETTERS = 8


def is_name(thing):
    if not isinstance(thing, str):
        return False
    return 1 <= len(thing) <= MOST_LETTERS and all([sign in LETTERS for sign in thing])


def name_at(k):
    name = ""
    # The names of n letters follow all shorter ones, so there is no letter for nought:
    # one is taken off ahead of each division.
    rest = k + 1
    while rest > 0:
        rest -= 1
        name = LETTERS[rest % 26] + name
        rest //= 26
    return name


def new_name(names):
    taken = dict([(name, True) for name in names])
    k = 0
    while name_at(k) in taken:
        k += 1
    return name_at(k)
